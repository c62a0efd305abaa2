package print_test

import (
	"fmt"
	"math/rand"
	"reflect"
	"slices"
	"strings"
	"testing"

	"catchment/api"
	"catchment/lex"
	"catchment/parse"
	"catchment/print"
)

func parsed(t *testing.T, s string) api.Query {
	t.Helper()
	q, at, e := parse.Query(s)
	if e != api.OK {
		t.Fatalf("Query(%q): %d at %d", s, e, at)
	}
	return q
}

// ofTokens is a query whose text may be longer than parse.Query takes: its pieces are cut one by one.
func ofTokens(t *testing.T, pieces ...string) (api.Query, api.Errno) {
	t.Helper()
	var all []api.Token
	for _, s := range pieces {
		l, at, e := lex.Lex(s)
		if e != api.OK {
			t.Fatalf("Lex(%q): %d at %d", s, e, at)
		}
		all = append(all, l...)
	}
	q, _, e := parse.Parse(all)
	return q, e
}

func wantText(t *testing.T, s, want string) {
	t.Helper()
	if got, e := print.Print(parsed(t, s)); e != api.OK || got != want {
		t.Errorf("Print of %q is %q, %d, not %q", s, got, e, want)
	}
}

func wantNone(t *testing.T, q api.Query) {
	t.Helper()
	if e := print.Check(q); e != api.ErrParse {
		t.Fatalf("Check(%+v) is %d", q, e)
	}
	if s, e := print.Print(q); e != api.ErrParse || s != "" {
		t.Fatalf("Print(%+v) is %q, %d", q, s, e)
	}
	for i := range len(q.N) {
		if s, e := print.Cond(q, i); e != api.ErrParse || s != "" {
			t.Fatalf("Cond(%+v, %d) is %q, %d", q, i, s, e)
		}
	}
}

// wantAsRule holds all three calls to the rule.
func wantAsRule(t *testing.T, q api.Query) {
	t.Helper()
	if !takes(q) {
		wantNone(t, q)
		return
	}
	if e := print.Check(q); e != api.OK {
		t.Fatalf("Check(%+v) is %d", q, e)
	}
	s, e := print.Print(q)
	wantTold(t, q, len(q.N)-1, s, e)
	for i := -1; i <= len(q.N); i++ {
		s, e := print.Cond(q, i)
		if i >= 0 && i < len(q.N) && q.N[i].Kind > api.QInput {
			wantTold(t, q, i, s, e)
		} else if e != api.ErrParse || s != "" {
			t.Fatalf("Cond(%+v, %d) is %q, %d", q, i, s, e)
		}
	}
}

func wantTold(t *testing.T, q api.Query, i int, s string, e api.Errno) {
	t.Helper()
	want, wantE := tell(q.N, i), api.OK
	if len(want) > 2048 {
		want, wantE = "", api.ErrLong
	}
	if s != want || e != wantE {
		t.Fatalf("the text of the node %d of %+v is %q, %d, not %q, %d", i, q, s, e, want, wantE)
	}
}

// same holds nodes against each other; a list that is empty may be nil.
func same(a, b api.Query) bool {
	return slices.EqualFunc(a.N, b.N, func(x, y api.Node) bool {
		lists := slices.Equal(x.L, y.L) && slices.Equal(x.Names, y.Names) && slices.Equal(x.Aggs, y.Aggs)
		x.L, x.Names, x.Aggs, y.L, y.Names, y.Aggs = nil, nil, nil, nil, nil, nil
		return lists && reflect.DeepEqual(x, y)
	})
}

func TestExamples(t *testing.T) {
	wantText(t, `fetch load|where(host="a"or n>5)and up=true|top 3 by n`, `fetch load | where (host = "a" or n > 5) and up = true | top 3 by n`)
	wantText(t, `fetch load | group:count,sum n`, `fetch load | group : count, sum n`)
}

func TestP13_1Takes(t *testing.T) {
	for _, s := range []string{
		"fetch a", "fetch a from 1 to 2", "fetch a from -9223372036854775808 to 9223372036854775807", "fetch a | keep x", "fetch a | keep x, y, x", "fetch a | align -5", "fetch a | top 0 by n",
		"fetch a | group : count", "fetch a | group x, y : count, count, merge h", "fetch a | where not not n = 1", `fetch a | where n has ""`, "fetch a | where up = false",
		"fetch a | join (fetch b) | union (fetch a | keep x)", "fetch not | keep not | group not : sum not | top 1 by not", "fetch a | where true = true and and = 1 or or = 1",
		"fetch a | where ((((n = 1))))", "fetch a from 0 to 1099511627775", "fetch a | where " + strings.Repeat("(", 16) + "n = 1" + strings.Repeat(")", 16),
	} {
		if e := print.Check(parsed(t, s)); e != api.OK {
			t.Errorf("Check of %q is %d", s, e)
		}
	}
}

// An empty list may be nil, or not.
func TestP13_1EmptyLists(t *testing.T) {
	q := parsed(t, "fetch a | where n = 1 | group : count")
	for i := range q.N {
		n := &q.N[i]
		n.L, n.Names, n.Aggs = append([]int{}, n.L...), append([]string{}, n.Names...), append([]api.Agg{}, n.Aggs...)
	}
	if s, e := print.Print(q); e != api.OK || s != "fetch a | where n = 1 | group : count" || print.Check(q) != api.OK {
		t.Errorf("%q, %d", s, e)
	}
}

// Each of these changes makes of what parse.Parse answers something that it never does.
func TestP13_1Spoilt(t *testing.T) {
	const s = `fetch a | where b = 1 or c has "x" and not d = true | keep e | align 5 | group f : count, sum g | top 3 by h | join (fetch i from 1 to 2)`
	const fetch, cmp, has, isTrue, not, and, or, where, keep, align, group, top, inner, join = 0, 1, 2, 3, 4, 5, 6, 7, 8, 9, 10, 11, 12, 13
	good := parsed(t, s)
	if print.Check(good) != api.OK {
		t.Fatal("Check does not take the query")
	}
	h := [8]int{7: 1}
	for k, f := range []func(n []api.Node){
		func(n []api.Node) { n[fetch].Kind = 0 }, func(n []api.Node) { n[fetch].Kind = api.QInput }, func(n []api.Node) { n[fetch].Kind = 10 }, func(n []api.Node) { n[fetch].Kind = 16 }, func(n []api.Node) { n[fetch].Kind = -1 },
		func(n []api.Node) { n[fetch].Kind = api.PHas }, func(n []api.Node) { n[keep].Kind = api.PNot }, func(n []api.Node) { n[not].Kind = api.QAlign }, func(n []api.Node) { n[join].Kind = api.QWhere }, func(n []api.Node) { n[where].Kind = api.QJoin },
		func(n []api.Node) { n[where].Kind = api.PAnd }, func(n []api.Node) { n[and].Kind = api.QUnion }, func(n []api.Node) { n[join].Kind = 1 << 62 }, func(n []api.Node) { n[join].Kind = -1 << 63 }, func(n []api.Node) { n[join].L = nil },
		func(n []api.Node) { n[fetch].S = "" }, func(n []api.Node) { n[fetch].S = "A" }, func(n []api.Node) { n[fetch].S = "a b" }, func(n []api.Node) { n[fetch].S = " a" }, func(n []api.Node) { n[fetch].S = "5" }, func(n []api.Node) { n[fetch].S = "a | keep b" },
		func(n []api.Node) { n[fetch].S = strings.Repeat("a", 25) }, func(n []api.Node) { n[fetch].S = strings.Repeat("a", 5000) }, func(n []api.Node) { n[fetch].S = "a from 0 to 5" }, func(n []api.Node) { n[top].S = "(" }, func(n []api.Node) { n[cmp].S = "not" },
		func(n []api.Node) { n[has].S = "not" }, func(n []api.Node) { n[cmp].S = "not x" }, func(n []api.Node) { n[has].S = `"x"` }, func(n []api.Node) { n[keep].Names = []string{":"} }, func(n []api.Node) { n[group].Names = []string{"f", ""} },
		func(n []api.Node) { n[keep].Names = nil }, func(n []api.Node) { n[keep].Names = []string{"e,e"} }, func(n []api.Node) { n[group].Aggs = nil }, func(n []api.Node) { n[group].Aggs[0].Col = "x" }, func(n []api.Node) { n[group].Aggs[1].Col = "" },
		func(n []api.Node) { n[group].Aggs[1].Kind = 0 }, func(n []api.Node) { n[group].Aggs[1].Kind = 7 }, func(n []api.Node) { n[group].Aggs[1].Kind = -1 }, func(n []api.Node) { n[group].Aggs[1] = api.Agg{Col: "count"} }, func(n []api.Node) { n[group].Aggs[1].Kind = -1 << 63 },
		func(n []api.Node) { n[cmp].N = 0 }, func(n []api.Node) { n[cmp].N = 7 }, func(n []api.Node) { n[cmp].N = -1 }, func(n []api.Node) { n[cmp].N = 1 << 62 }, func(n []api.Node) { n[has].N = 1 },
		func(n []api.Node) { n[cmp].V = api.Value{} }, func(n []api.Node) { n[cmp].V.Kind = api.Hist }, func(n []api.Node) { n[cmp].V = api.Value{Kind: api.Hist, H: h} }, func(n []api.Node) { n[cmp].V.Kind = 5 }, func(n []api.Node) { n[cmp].V.S = "1" },
		func(n []api.Node) { n[cmp].V.H = h }, func(n []api.Node) { n[isTrue].V.N = 2 }, func(n []api.Node) { n[isTrue].V.S = "true" }, func(n []api.Node) { n[cmp].V = api.Value{Kind: api.Str, S: strings.Repeat("x", 65)} }, func(n []api.Node) { n[cmp].V = api.Value{Kind: api.Str, S: "x", N: 1} },
		func(n []api.Node) { n[has].V.Kind = api.Int }, func(n []api.Node) { n[has].V.Kind = 0 }, func(n []api.Node) { n[has].V.N = 1 }, func(n []api.Node) { n[has].V.H = h }, func(n []api.Node) { n[has].V.S = strings.Repeat("x", 65) }, func(n []api.Node) { n[has].V = api.Value{Kind: api.Bool, N: 1} },
		func(n []api.Node) { n[fetch].N = 1 }, func(n []api.Node) { n[where].N = 1 }, func(n []api.Node) { n[keep].N = 1 }, func(n []api.Node) { n[group].N = 1 }, func(n []api.Node) { n[join].N = 1 }, func(n []api.Node) { n[and].N = 1 }, func(n []api.Node) { n[not].N = 1 },
		func(n []api.Node) { n[where].S = "a" }, func(n []api.Node) { n[align].S = "a" }, func(n []api.Node) { n[or].S = "a" }, func(n []api.Node) { n[keep].From = 1 }, func(n []api.Node) { n[cmp].From = 1 }, func(n []api.Node) { n[top].To = 1 }, func(n []api.Node) { n[and].To = api.MaxTime - 1 },
		func(n []api.Node) { n[fetch].V.Kind = api.Int }, func(n []api.Node) { n[where].V.S = "a" }, func(n []api.Node) { n[not].V.N = 1 }, func(n []api.Node) { n[join].V.H = h }, func(n []api.Node) { n[fetch].Names = []string{"a"} }, func(n []api.Node) { n[top].Names = []string{"a"} },
		func(n []api.Node) { n[cmp].Names = []string{"a"} }, func(n []api.Node) { n[keep].Aggs = []api.Agg{{Kind: api.Count}} }, func(n []api.Node) { n[or].Aggs = []api.Agg{{}} },
		func(n []api.Node) { n[fetch].L = []int{0} }, func(n []api.Node) { n[cmp].L = []int{0} }, func(n []api.Node) { n[and].L = []int{2, 2} }, func(n []api.Node) { n[and].L = []int{4, 2} }, func(n []api.Node) { n[and].L = []int{2} }, func(n []api.Node) { n[and].L = []int{2, 3} },
		func(n []api.Node) { n[or].L = []int{1, 5, 0} }, func(n []api.Node) { n[or].L = []int{-1, 5} }, func(n []api.Node) { n[or].L = []int{1, 6} }, func(n []api.Node) { n[or].L = []int{1, 7} }, func(n []api.Node) { n[or].L = []int{1, 14} }, func(n []api.Node) { n[or].L = []int{1, 1 << 62} },
		func(n []api.Node) { n[where].L = []int{6, 0} }, func(n []api.Node) { n[where].L = []int{0, 0} }, func(n []api.Node) { n[keep].L = []int{8} }, func(n []api.Node) { n[keep].L = []int{9} }, func(n []api.Node) { n[keep].L = []int{6} }, func(n []api.Node) { n[keep].L = []int{7, 7} },
		func(n []api.Node) { n[join].L = []int{12, 11} }, func(n []api.Node) { n[join].L = []int{11} }, func(n []api.Node) { n[join].L = []int{11, -1 << 63} }, func(n []api.Node) { n[not].L = []int{4} }, func(n []api.Node) { n[not].L = []int{2}; n[and].L = []int{3, 4} },
		func(n []api.Node) { n[fetch], n[cmp] = n[cmp], n[fetch]; n[where].L[0] = 1; n[or].L[0] = 0 },
	} {
		q := clone(good)
		f(q.N)
		if print.Check(q) != api.ErrParse {
			t.Fatalf("Check takes the change %d", k)
		}
		wantNone(t, q)
	}
}

func TestP13_1Pieces(t *testing.T) {
	wantNone(t, api.Query{})
	wantNone(t, api.Query{N: []api.Node{}})
	wantNone(t, api.Query{N: []api.Node{{}}})
	q := parsed(t, "fetch a | where b = 1 or c = 2 and d > 3 | keep x")
	for n := range len(q.N) {
		switch kind := q.N[max(n-1, 0)].Kind; {
		case n == 1, kind == api.QWhere:
			wantAsRule(t, api.Query{N: q.N[:n]})
		default:
			wantNone(t, api.Query{N: q.N[:n]})
		}
		if n > 0 {
			wantNone(t, api.Query{N: q.N[n:]})
		}
	}
	// A condition alone is no query, nor are two queries one behind the other.
	wantNone(t, api.Query{N: []api.Node{{Kind: api.PCmp, S: "a", N: api.Eq, V: api.Value{Kind: api.Int}}}})
	wantNone(t, api.Query{N: []api.Node{q.N[0], q.N[0]}})
}

// Of two that are alike the one that stands first is named first.
func TestP13_1Alike(t *testing.T) {
	for _, s := range []string{"fetch a | where n = 1 and n = 1", "fetch a | where n = 1 or n = 1", "fetch a | join (fetch a)", "fetch a | union (fetch a)"} {
		q := parsed(t, s)
		for i := range q.N {
			if l := q.N[i].L; len(l) == 2 && q.N[i].Kind != api.QWhere {
				l[0], l[1] = l[1], l[0]
			}
		}
		wantNone(t, q)
	}
}

// Nodes that are named twice would be a text that doubles with each of them.
func TestP13_1Doubling(t *testing.T) {
	q := parsed(t, "fetch a | where n = 1")
	for len(q.N) < api.MaxNodes {
		i := len(q.N) - 1
		q.N = append(q.N, api.Node{Kind: api.QUnion, L: []int{i, i}})
	}
	wantNone(t, q)
}

func TestP13_1ManyNodes(t *testing.T) {
	for _, n := range []int{127, 128, 129, 130, 100000} {
		q := api.Query{N: []api.Node{{Kind: api.QFetch, S: "a", To: api.MaxTime - 1}}}
		for len(q.N) < n {
			q.N = append(q.N, api.Node{Kind: api.QAlign, L: []int{len(q.N) - 1}, N: 5})
		}
		wantAsRule(t, q)
		if takes(q) != (n <= api.MaxNodes) {
			t.Errorf("the rule is wrong of %d nodes", n)
		}
	}
}

// No more than 1024 tokens are a query: four ahead of the names, and a comma between each two.
func TestP13_1ManyTokens(t *testing.T) {
	for n, want := range map[int]api.Errno{509: api.OK, 510: api.OK, 511: api.ErrParse, 512: api.ErrParse, 100000: api.ErrParse} {
		q := api.Query{N: []api.Node{{Kind: api.QFetch, S: "a", To: api.MaxTime - 1}, {Kind: api.QKeep, L: []int{0}, Names: slices.Repeat([]string{"b"}, n)}}}
		if e := print.Check(q); e != want {
			t.Errorf("Check of %d names is %d", n, e)
		}
		wantAsRule(t, q)
	}
	// The tokens of times count too.
	for n, want := range map[int]api.Errno{508: api.OK, 509: api.ErrParse} {
		q := api.Query{N: []api.Node{{Kind: api.QFetch, S: "a", To: 5}, {Kind: api.QKeep, L: []int{0}, Names: slices.Repeat([]string{"b"}, n)}}}
		if e := print.Check(q); e != want {
			t.Errorf("Check of %d names with times is %d", n, e)
		}
		wantAsRule(t, q)
	}
	// Five tokens stand ahead of the aggregates: 1024 in all, and one more.
	q := api.Query{N: []api.Node{{Kind: api.QFetch, S: "a", To: api.MaxTime - 1}, {Kind: api.QGroup, L: []int{0}, Aggs: slices.Repeat([]api.Agg{{Kind: api.Count}}, 510)}}}
	wantAsRule(t, q)
	if e := print.Check(q); e != api.OK {
		t.Errorf("Check of 1024 tokens is %d", e)
	}
	q.N[1].Aggs[7] = api.Agg{Kind: api.Sum, Col: "c"}
	wantNone(t, q)
}

// nested is a query whose condition stands below so many, each of the kinds in turn; the kinds' brackets are all needed.
func nested(kinds []int, n int) api.Query {
	one := func(s string) api.Node { return api.Node{Kind: api.PHas, S: s, V: api.Value{Kind: api.Str}} }
	var ahead []api.Node
	for k := range n {
		if kinds[k%len(kinds)] != api.PNot {
			ahead = append(ahead, one("a"))
		}
	}
	l := append([]api.Node{{Kind: api.QFetch, S: "f", To: api.MaxTime - 1}}, ahead...)
	l = append(l, one("b"))
	left := len(ahead)
	for k := n - 1; k >= 0; k-- {
		kind := kinds[k%len(kinds)]
		below := []int{len(l) - 1}
		if kind != api.PNot {
			below = []int{left, len(l) - 1}
			left--
		}
		l = append(l, api.Node{Kind: kind, L: below})
	}
	return api.Query{N: append(l, api.Node{Kind: api.QWhere, L: []int{0, len(l) - 1}})}
}

// Of a nest the brackets and nots count that the text needs.
func TestP13_1Depth(t *testing.T) {
	for _, c := range []struct {
		kinds []int
		most  int
	}{
		{[]int{api.PNot}, 16}, {[]int{api.PAnd}, 17}, {[]int{api.POr}, 17}, {[]int{api.PAnd, api.POr}, 33}, {[]int{api.POr, api.PAnd}, 34}, {[]int{api.PNot, api.PAnd}, 16},
		{[]int{api.PAnd, api.PNot}, 17}, {[]int{api.PNot, api.PNot, api.POr}, 16},
	} {
		for n := range 40 {
			q := nested(c.kinds, n)
			wantAsRule(t, q)
			if e := print.Check(q); (e == api.OK) != (n <= c.most) {
				t.Errorf("Check of %d of the kinds %v is %d", n, c.kinds, e)
			}
		}
	}
}

func TestP13_1DepthOfQueries(t *testing.T) {
	for n := range 20 {
		var l []api.Node
		for range n + 1 {
			l = append(l, api.Node{Kind: api.QFetch, S: "a", To: api.MaxTime - 1})
		}
		for k := range n {
			l = append(l, api.Node{Kind: api.QJoin + k%2, L: []int{n - 1 - k, len(l) - 1}})
		}
		wantAsRule(t, api.Query{N: l})
		if e := print.Check(api.Query{N: l}); (e == api.OK) != (n <= 16) {
			t.Errorf("Check of %d joins is %d", n, e)
		}
	}
}

// Queries one behind the other are within no others.
func TestP13_1Wide(t *testing.T) {
	wantText(t, "fetch a"+strings.Repeat("|join(fetch b|where not(a=1 or b=2))", 15), "fetch a"+strings.Repeat(" | join (fetch b | where not (a = 1 or b = 2))", 15))
	wantText(t, "fetch a|where(a=1)"+strings.Repeat("and(a=1 or b=2)", 20), "fetch a | where a = 1"+strings.Repeat(" and (a = 1 or b = 2)", 20))
}

func TestP13_2Fetch(t *testing.T) {
	wantText(t, "fetch load", "fetch load")
	wantText(t, " fetch\nload ", "fetch load")
	wantText(t, "fetch load from 0 to 1099511627775", "fetch load")
	wantText(t, "fetch load from 0 to 0", "fetch load from 0 to 0")
	wantText(t, "fetch load from 0 to 1099511627774", "fetch load from 0 to 1099511627774")
	wantText(t, "fetch load from 0 to 1099511627776", "fetch load from 0 to 1099511627776")
	wantText(t, "fetch load from 1 to 1099511627775", "fetch load from 1 to 1099511627775")
	wantText(t, "fetch load from -1 to 1099511627775", "fetch load from -1 to 1099511627775")
	wantText(t, "fetch from from -9223372036854775808 to 9223372036854775807", "fetch from from -9223372036854775808 to 9223372036854775807")
}

func TestP13_2Steps(t *testing.T) {
	for s, want := range map[string]string{
		"keep x": "", "keep x,y,x": "keep x, y, x", "align 0": "", "align -9223372036854775808": "", "top 3 by n": "", "top -1 by by": "",
		"group:count": "group : count", "group a:count": "group a : count", "group a,b,c:count,count": "group a, b, c : count, count",
		"group:sum a,min b,max c,mean d,merge e,count": "group : sum a, min b, max c, mean d, merge e, count", "group count:sum count": "group count : sum count",
		"join(fetch b)": "join (fetch b)", "union(fetch b)": "union (fetch b)", "join(fetch b|keep c|union(fetch d from 1 to 2))|align 5": "join (fetch b | keep c | union (fetch d from 1 to 2)) | align 5",
		"where n=1": "where n = 1", "where(n=1)": "where n = 1", "where n=1|where m=2": "where n = 1 | where m = 2",
	} {
		if want == "" {
			want = s
		}
		wantText(t, "fetch a|"+s, "fetch a | "+want)
	}
}

func TestP13_2Conds(t *testing.T) {
	for s, want := range map[string]string{
		"a=1": "a = 1", "a!=1": "a != 1", "a<1": "a < 1", "a<=1": "a <= 1", "a>1": "a > 1", "a>=1": "a >= 1", "a=true": "a = true", "a<false": "a < false", "a>=-9223372036854775808": "a >= -9223372036854775808",
		`a=""`: `a = ""`, `a="x"`: `a = "x"`, `a="\"\\"`: `a = "\"\\"`, `a has""`: `a has ""`, `a has"\"x\\y"`: `a has "\"x\\y"`, `a="( )"`: `a = "( )"`, "a=\"\n\xff\"": "a = \"\n\xff\"",
		"a=1 and b=2": "a = 1 and b = 2", "a=1 or b=2": "a = 1 or b = 2", "a=1 or b=2 and c=3": "a = 1 or b = 2 and c = 3", "a=1 and b=2 or c=3": "a = 1 and b = 2 or c = 3",
		"(a=1 or b=2)and c=3": "(a = 1 or b = 2) and c = 3", "a=1 and(b=2 or c=3)": "a = 1 and (b = 2 or c = 3)", "(a=1 and b=2)or(c=3 and d=4)": "a = 1 and b = 2 or c = 3 and d = 4",
		"(a=1 and b=2)and c=3": "a = 1 and b = 2 and c = 3", "a=1 and(b=2 and c=3)": "a = 1 and (b = 2 and c = 3)", "(a=1 or b=2)or c=3": "a = 1 or b = 2 or c = 3", "a=1 or(b=2 or c=3)": "a = 1 or (b = 2 or c = 3)",
		"(a=1 or b=2)and(c=3 or d=4)": "(a = 1 or b = 2) and (c = 3 or d = 4)", "a=1 and((b=2 or c=3)and d=4)": "a = 1 and ((b = 2 or c = 3) and d = 4)", "a=1 or(b=2 and(c=3 or d=4))": "a = 1 or b = 2 and (c = 3 or d = 4)",
		"not a=1": "not a = 1", "not(a=1)": "not a = 1", "not not a=1": "not not a = 1", "not(a=1 or b=2)": "not (a = 1 or b = 2)", "not(a=1 and b=2)": "not (a = 1 and b = 2)", "not(not(a=1 and b=2))": "not not (a = 1 and b = 2)",
		"not a=1 and b=2": "not a = 1 and b = 2", "(not a=1)and(not b=2)": "not a = 1 and not b = 2", "a=1 and not(b=2 or c=3)": "a = 1 and not (b = 2 or c = 3)", "not not(a=1)or b=2": "not not a = 1 or b = 2",
	} {
		wantText(t, "fetch f | where "+s, "fetch f | where "+want)
		wantText(t, "fetch f | where "+s+"|join(fetch g|where "+s+")", "fetch f | where "+want+" | join (fetch g | where "+want+")")
		// Of the whole condition Cond is that part of the text.
		q := parsed(t, "fetch f | where "+s)
		if got, e := print.Cond(q, len(q.N)-2); e != api.OK || got != want {
			t.Errorf("Cond of %q is %q, %d, not %q", s, got, e, want)
		}
	}
}

func TestP13_3(t *testing.T) {
	q := parsed(t, `fetch a | where (b = 1 or c has "x") and not (d > 3 and e = true) | join (fetch f | where g = 5)`)
	for i, want := range []string{
		"", "b = 1", `c has "x"`, `b = 1 or c has "x"`, "d > 3", "e = true", "d > 3 and e = true", "not (d > 3 and e = true)", `(b = 1 or c has "x") and not (d > 3 and e = true)`, "", "", "g = 5", "", "",
	} {
		s, e := print.Cond(q, i)
		if s != want || (e == api.OK) != (want != "") || e != api.OK && e != api.ErrParse {
			t.Errorf("Cond of the node %d is %q, %d, not %q", i, s, e, want)
		}
	}
	for _, i := range []int{-1, -1 << 63, len(q.N), 1<<63 - 1} {
		if s, e := print.Cond(q, i); e != api.ErrParse || s != "" {
			t.Errorf("Cond of the node %d is %q, %d", i, s, e)
		}
	}
	// What is wrong elsewhere counts too, and a condition alone is no query.
	q.N[10].S = "F"
	wantNone(t, q)
	c, _, _ := parse.Cond([]api.Token{{Kind: api.TokWord, S: "a"}, {Kind: api.TokSign, S: "="}, {Kind: api.TokNumber}})
	wantNone(t, c)
	for _, i := range []int{-1, 0, 1} {
		if s, e := print.Cond(api.Query{}, i); e != api.ErrParse || s != "" {
			t.Errorf("Cond of nothing is %q, %d", s, e)
		}
	}
}

// chain is a condition whose text has just so many bytes.
func chain(bytes int) string {
	const fifty = `aaaaaaaaaaaaaaaaaaaaaaaa = "xxxxxxxxxxxxxxxxx" or `
	n := bytes - len(`b = ""`)
	return strings.Repeat(fifty, n/len(fifty)) + `b = "` + strings.Repeat("y", n%len(fifty)) + `"`
}

// The blanks of a text count: 2048 bytes are told, 2049 not.
func TestP13_2Long(t *testing.T) {
	const ahead = "fetch a | where "
	for _, bytes := range []int{100, 2031, 2032, 2033, 2047, 2048, 2049, 2050, 2500} {
		cond := chain(bytes)
		q, e := ofTokens(t, ahead, cond[:50], cond[50:min(bytes, 1000)], cond[min(bytes, 1000):])
		if e != api.OK || len(cond) != bytes {
			t.Fatal(e, len(cond), bytes)
		}
		if e := print.Check(q); e != api.OK {
			t.Errorf("Check of %d bytes is %d", bytes, e)
		}
		wantTextOrLong(t, ahead+cond, func() (string, api.Errno) { return print.Print(q) })
		wantTextOrLong(t, cond, func() (string, api.Errno) { return print.Cond(q, len(q.N)-2) })
		wantAsRule(t, q)
	}
}

func wantTextOrLong(t *testing.T, want string, call func() (string, api.Errno)) {
	t.Helper()
	s, e := call()
	if len(want) <= 2048 && (e != api.OK || s != want) || len(want) > 2048 && (e != api.ErrLong || s != "") {
		t.Errorf("a text of %d bytes is %q, %d", len(want), s, e)
	}
}

// A text that is not too long may be so when it is printed: of parse.Query's own answers too.
func TestP13_2LongByBlanks(t *testing.T) {
	q := parsed(t, "fetch a|keep b"+strings.Repeat(",c", 500))
	if text, e := print.Print(q); e != api.OK || text != "fetch a | keep b"+strings.Repeat(", c", 500) {
		t.Errorf("%q, %d", text, e)
	}
	q = parsed(t, "fetch a|keep b"+strings.Repeat(",cc", 508))
	if text, e := print.Print(q); e != api.OK || text != "fetch a | keep b"+strings.Repeat(", cc", 508) || len(text) != 2048 {
		t.Errorf("%q, %d of %d bytes", text, e, len(text))
	}
	q = parsed(t, "fetch a|keep bb"+strings.Repeat(",cc", 508))
	if text, e := print.Print(q); e != api.ErrLong || text != "" || print.Check(q) != api.OK {
		t.Errorf("%q, %d", text, e)
	}
}

// Of nodes that are no query nothing is too long: what is said first is told.
func TestR3(t *testing.T) {
	q, e := ofTokens(t, "fetch a | keep b"+strings.Repeat(",aaaa", 200), "|keep b"+strings.Repeat(",aaaa", 200), "|where n=1")
	if e != api.OK {
		t.Fatal(e)
	}
	if s, e := print.Print(q); e != api.ErrLong || s != "" {
		t.Errorf("%q, %d", s, e)
	}
	if s, e := print.Cond(q, 3); e != api.OK || s != "n = 1" {
		t.Errorf("%q, %d", s, e)
	}
	q.N[3].N = 9
	wantNone(t, q)
}

func TestP13_4(t *testing.T) {
	r := rand.New(rand.NewSource(134))
	told := 0
	for range 20000 {
		q := made(r, r.Intn(6))
		s, e := print.Print(q)
		if e != api.OK {
			continue
		}
		told++
		p, at, e := parse.Query(s)
		if e != api.OK || at != 0 || !same(p, q) {
			t.Fatalf("Query(%q) is %+v, %d, %d, not %+v", s, p, at, e, q)
		}
	}
	if told < 10000 {
		t.Errorf("only %d queries were told", told)
	}
}

// Of a condition the text is that condition again.
func TestP13_3ReadBack(t *testing.T) {
	r := rand.New(rand.NewSource(133))
	for range 3000 {
		q := made(r, 4)
		for i := range q.N {
			s, e := print.Cond(q, i)
			if e != api.OK {
				continue
			}
			p, at, e := parse.Query("fetch x | where " + s)
			if e == api.ErrLong && at == 0 {
				continue
			}
			if e != api.OK {
				t.Fatalf("%q: %d at %d", s, e, at)
			}
			if again, e := print.Cond(p, len(p.N)-2); e != api.OK || again != s {
				t.Fatalf("%q is %q, %d when it is read back", s, again, e)
			}
			first := i + 1 - (len(p.N) - 2)
			for k := first; k <= i; k++ {
				if a, b := q.N[k], p.N[k-first+1]; a.Kind != b.Kind || a.S != b.S || a.N != b.N || a.V != b.V {
					t.Fatalf("the node %d of %q is %+v, not %+v", k, s, b, a)
				}
			}
		}
	}
}

func TestByRule(t *testing.T) {
	r := rand.New(rand.NewSource(13))
	taken := 0
	for range 6000 {
		q := made(r, r.Intn(7))
		if takes(q) {
			taken++
		}
		wantAsRule(t, q)
	}
	if taken < 3000 {
		t.Errorf("only %d queries were taken", taken)
	}
}

func TestByRuleSpoilt(t *testing.T) {
	r := rand.New(rand.NewSource(1313))
	count := map[bool]int{}
	for range 20000 {
		q := clone(made(r, r.Intn(5)))
		m := maker{r: r}
		for range 1 + r.Intn(2) {
			if len(q.N) > 0 {
				m.spoil(&q)
			}
		}
		count[takes(q)]++
		wantAsRule(t, q)
	}
	if count[true] < 1000 || count[false] < 5000 {
		t.Errorf("%v", count)
	}
}

// Nodes that are anything at all.
func TestR1(t *testing.T) {
	r := rand.New(rand.NewSource(131))
	m := maker{r: r}
	for range 40000 {
		var q api.Query
		for k := range r.Intn(5) {
			n := api.Node{Kind: r.Intn(19) - 1, S: m.oddName(), N: r.Intn(9) - 1, V: m.oddValue(), L: m.oddList(k + 1)}
			if r.Intn(2) == 0 {
				n.L = []int{k - 1}
			}
			n.Names, n.Aggs = m.oddNames(nil), m.oddAggs(nil)
			q.N = append(q.N, n)
		}
		wantAsRule(t, q)
	}
}

func TestR6(t *testing.T) {
	r := rand.New(rand.NewSource(136))
	for range 200 {
		q := made(r, 4)
		a, e := print.Print(q)
		print.Print(made(r, 4))
		if b, f := print.Print(clone(q)); a != b || e != f {
			t.Fatalf("%q, %d and %q, %d", a, e, b, f)
		}
	}
}

// Neither what is handed in nor the room behind it is changed.
func TestR7(t *testing.T) {
	r := rand.New(rand.NewSource(137))
	for k := range 500 {
		q := clone(made(r, 4))
		if k%2 == 0 {
			m := maker{r: r}
			m.spoil(&q)
		}
		room := append(q.N, api.Node{Kind: 77})
		q.N = room[:len(q.N)]
		var whole []any
		for i := range q.N {
			n := &q.N[i]
			l, names, aggs := append(n.L, 77), append(n.Names, "behind"), append(n.Aggs, api.Agg{Kind: 77})
			n.L, n.Names, n.Aggs = l[:len(n.L)], names[:len(n.Names)], aggs[:len(n.Aggs)]
			whole = append(whole, l, names, aggs)
		}
		before := fmt.Sprintf("%+v %+v", room, whole)
		wantAsRule(t, q)
		if after := fmt.Sprintf("%+v %+v", room, whole); after != before {
			t.Fatalf("%s became %s", before, after)
		}
	}
}
