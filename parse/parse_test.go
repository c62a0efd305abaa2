package parse_test

import (
	"fmt"
	"math/rand"
	"reflect"
	"slices"
	"strings"
	"testing"

	"catchment/api"
	"catchment/lex"
	"catchment/parse"
)

func word(s string) api.Token { return api.Token{Kind: api.TokWord, S: s} }

func sign(s string) api.Token { return api.Token{Kind: api.TokSign, S: s} }

func number(n int) api.Token { return api.Token{Kind: api.TokNumber, N: n} }

func text(s string) api.Token { return api.Token{Kind: api.TokText, S: s} }

func cut(t *testing.T, s string) []api.Token {
	t.Helper()
	l, _, e := lex.Lex(s)
	if e != api.OK {
		t.Fatalf("Lex(%q): %d", s, e)
	}
	return l
}

func fetch(name string) api.Node { return api.Node{Kind: api.QFetch, S: name, To: 1<<40 - 1} }

func ofInt(n int) api.Value { return api.Value{Kind: api.Int, N: n} }

func ofStr(s string) api.Value { return api.Value{Kind: api.Str, S: s} }

func ofBool(n int) api.Value { return api.Value{Kind: api.Bool, N: n} }

func compare(name string, how int, v api.Value) api.Node {
	return api.Node{Kind: api.PCmp, S: name, N: how, V: v}
}

func above(kind int, l ...int) api.Node { return api.Node{Kind: kind, L: l} }

// same holds nodes against each other; a list that is empty may be nil.
func same(a, b []api.Node) bool {
	return slices.EqualFunc(a, b, func(x, y api.Node) bool {
		lists := slices.Equal(x.L, y.L) && slices.Equal(x.Names, y.Names) && slices.Equal(x.Aggs, y.Aggs)
		x.L, x.Names, x.Aggs, y.L, y.Names, y.Aggs = nil, nil, nil, nil, nil, nil
		return lists && reflect.DeepEqual(x, y)
	})
}

func wantNodes(t *testing.T, s string, want ...api.Node) {
	t.Helper()
	q, at, e := parse.Query(s)
	if e != api.OK || at != 0 || !same(q.N, want) {
		t.Errorf("Query(%q) is %+v, %d, %d, not %+v", s, q.N, at, e, want)
	}
}

func wantFault(t *testing.T, s string, wantAt int, want api.Errno) {
	t.Helper()
	if q, at, e := parse.Query(s); e != want || at != wantAt || q.N != nil {
		t.Errorf("Query(%q) is %+v, %d, %d, not the error %d at %d", s, q.N, at, e, want, wantAt)
	}
}

func wantCond(t *testing.T, s string, want ...api.Node) {
	t.Helper()
	q, at, e := parse.Cond(cut(t, s))
	if e != api.OK || at != 0 || !same(q.N, want) {
		t.Errorf("Cond(%q) is %+v, %d, %d, not %+v", s, q.N, at, e, want)
	}
}

func wantCondFault(t *testing.T, s string, wantAt int, want api.Errno) {
	t.Helper()
	if q, at, e := parse.Cond(cut(t, s)); e != want || at != wantAt || q.N != nil {
		t.Errorf("Cond(%q) is %+v, %d, %d, not the error %d at %d", s, q.N, at, e, want, wantAt)
	}
}

func wantParseFault(t *testing.T, l []api.Token, wantAt int, want api.Errno) {
	t.Helper()
	if q, at, e := parse.Parse(l); e != want || at != wantAt || q.N != nil {
		t.Errorf("Parse of %d tokens is %+v, %d, %d, not the error %d at %d", len(l), q.N, at, e, want, wantAt)
	}
}

// wantNamedOnce is P12.3.
func wantNamedOnce(t *testing.T, q api.Query) {
	t.Helper()
	named := make([]int, len(q.N))
	for i, n := range q.N {
		for _, k := range n.L {
			if k < 0 || k >= i {
				t.Fatalf("the node %d names %d: %+v", i, k, q.N)
			}
			named[k]++
		}
	}
	for i, n := range named {
		if n != 1 && i < len(named)-1 {
			t.Fatalf("the node %d is named %d times: %+v", i, n, q.N)
		}
	}
}

func TestExamples(t *testing.T) {
	wantNodes(t, `fetch load | where host = "a" or n > 5 and up = true | top 3 by n`,
		fetch("load"), compare("host", api.Eq, ofStr("a")), compare("n", api.Gt, ofInt(5)), compare("up", api.Eq, ofBool(1)), above(api.PAnd, 2, 3), above(api.POr, 1, 4),
		above(api.QWhere, 0, 5), api.Node{Kind: api.QTop, L: []int{6}, N: 3, S: "n"})
	wantNodes(t, `fetch load | join (fetch lat) | keep host`,
		fetch("load"), fetch("lat"), above(api.QJoin, 0, 1), api.Node{Kind: api.QKeep, L: []int{2}, Names: []string{"host"}})
	wantFault(t, `fetch load |`, 12, api.ErrParse)
	wantFault(t, `fetch load | by`, 13, api.ErrParse)
	wantFault(t, `fetch 5`, 6, api.ErrParse)
}

func TestP12_1Fetch(t *testing.T) {
	wantNodes(t, `fetch load`, fetch("load"))
	wantNodes(t, `fetch load from 1 to 5`, api.Node{Kind: api.QFetch, S: "load", From: 1, To: 5})
	wantNodes(t, `fetch load from 5 to -1`, api.Node{Kind: api.QFetch, S: "load", From: 5, To: -1})
	wantNodes(t, `fetch load from 0 to 1099511627776`, api.Node{Kind: api.QFetch, S: "load", To: 1 << 40})
	wantNodes(t, `fetch load from -9223372036854775808 to 9223372036854775807`, api.Node{Kind: api.QFetch, S: "load", From: -1 << 63, To: 1<<63 - 1})
	for _, s := range []string{"", "load", "5", `"fetch"`, "| keep n", "(fetch load)", "where n = 1"} {
		wantFault(t, s, 0, api.ErrParse)
	}
	wantFault(t, `fetch`, 5, api.ErrParse)
	wantFault(t, `fetch "load"`, 6, api.ErrParse)
	wantFault(t, `fetch |`, 6, api.ErrParse)
	wantFault(t, `fetch load lat`, 11, api.ErrParse)
	wantFault(t, `fetch load, lat`, 10, api.ErrParse)
	wantFault(t, `fetch load to 5`, 11, api.ErrParse)
	wantFault(t, `fetch load from`, 15, api.ErrParse)
	wantFault(t, `fetch load from n`, 16, api.ErrParse)
	wantFault(t, `fetch load from 1 5`, 18, api.ErrParse)
	wantFault(t, `fetch load from 1 to`, 20, api.ErrParse)
	wantFault(t, `fetch load from 1 to |`, 21, api.ErrParse)
	wantFault(t, `fetch load from 1 to 5 from 1 to 5`, 23, api.ErrParse)
	wantFault(t, `fetch load | fetch lat`, 13, api.ErrParse)
	wantFault(t, `fetch load | | keep n`, 13, api.ErrParse)
	wantFault(t, `fetch load keep n`, 11, api.ErrParse)
}

func TestP12_1Steps(t *testing.T) {
	f := fetch("a")
	wantNodes(t, `fetch a | keep x`, f, api.Node{Kind: api.QKeep, L: []int{0}, Names: []string{"x"}})
	wantNodes(t, `fetch a | keep x, y,x`, f, api.Node{Kind: api.QKeep, L: []int{0}, Names: []string{"x", "y", "x"}})
	wantNodes(t, `fetch a | align -60`, f, api.Node{Kind: api.QAlign, L: []int{0}, N: -60})
	wantNodes(t, `fetch a | top 0 by n`, f, api.Node{Kind: api.QTop, L: []int{0}, S: "n"})
	wantNodes(t, `fetch a | top 5000 by time`, f, api.Node{Kind: api.QTop, L: []int{0}, N: 5000, S: "time"})
	wantNodes(t, `fetch a | where n = 1`, f, compare("n", api.Eq, ofInt(1)), above(api.QWhere, 0, 1))
	wantNodes(t, `fetch a | union (fetch b)`, f, fetch("b"), above(api.QUnion, 0, 1))
	wantNodes(t, `fetch a | align 1 | align 2 | align 3`, f,
		api.Node{Kind: api.QAlign, L: []int{0}, N: 1}, api.Node{Kind: api.QAlign, L: []int{1}, N: 2}, api.Node{Kind: api.QAlign, L: []int{2}, N: 3})
	wantNodes(t, `fetch a | join (fetch b | align 1 | union (fetch c | align 2)) | align 3`, f,
		fetch("b"), api.Node{Kind: api.QAlign, L: []int{1}, N: 1}, fetch("c"), api.Node{Kind: api.QAlign, L: []int{3}, N: 2},
		above(api.QUnion, 2, 4), above(api.QJoin, 0, 5), api.Node{Kind: api.QAlign, L: []int{6}, N: 3})
}

func TestP12_1NoSteps(t *testing.T) {
	const ahead = `fetch a | ` // ten bytes
	for s, at := range map[string]int{
		`by n`: 0, `and`: 0, `has`: 0, `5`: 0, `"keep" n`: 0, `(keep n)`: 0, `:`: 0,
		`keep`: 4, `keep 5`: 5, `keep "n"`: 5, `keep , n`: 5, `keep a b`: 7, `keep a,`: 7, `keep a,,b`: 7, `keep a, 5`: 8, `keep a | keep`: 13, `keep (a)`: 5,
		`align`: 5, `align n`: 6, `align "5"`: 6, `align 5 6`: 8, `align 5, 6`: 7,
		`top`: 3, `top n`: 4, `top 3`: 5, `top 3 n`: 6, `top 3 by`: 8, `top 3 by 5`: 9, `top 3 by n, m`: 10, `top by n`: 4,
		`join`: 4, `join b`: 5, `join fetch b`: 5, `join (`: 6, `join ()`: 6, `join (b)`: 6, `join (n = 1)`: 6, `join (fetch b`: 13, `join (fetch b | )`: 16, `join (fetch b))`: 14, `join (fetch b) (fetch c)`: 15, `join ((fetch b))`: 6,
		`union`: 5, `union (fetch b, fetch c)`: 14, `union fetch b`: 6,
		`where`: 5, `where | keep n`: 6, `where n = 1 | `: 14, `where n = 1, m = 2`: 11, `where (n = 1 | keep n)`: 13,
	} {
		wantFault(t, ahead+s, len(ahead)+at, api.ErrParse)
	}
}

func TestP12_1Groups(t *testing.T) {
	group := func(names []string, aggs ...api.Agg) api.Node {
		return api.Node{Kind: api.QGroup, L: []int{0}, Names: names, Aggs: aggs}
	}
	count := api.Agg{Kind: api.Count}
	wantNodes(t, `fetch a | group : count`, fetch("a"), group(nil, count))
	wantNodes(t, `fetch a | group x : count, count`, fetch("a"), group([]string{"x"}, count, count))
	wantNodes(t, `fetch a | group x, y, x : sum n, min n, max n, mean n, merge n, count, sum count`, fetch("a"), group([]string{"x", "y", "x"},
		api.Agg{Kind: api.Sum, Col: "n"}, api.Agg{Kind: api.Least, Col: "n"}, api.Agg{Kind: api.Most, Col: "n"}, api.Agg{Kind: api.Mean, Col: "n"}, api.Agg{Kind: api.Merge, Col: "n"}, count, api.Agg{Kind: api.Sum, Col: "count"}))
	wantNodes(t, `fetch a | group count, sum : sum sum`, fetch("a"), group([]string{"count", "sum"}, api.Agg{Kind: api.Sum, Col: "sum"}))
	const ahead = `fetch a | `
	for s, at := range map[string]int{
		`group`: 5, `group x`: 7, `group x count`: 8, `group :`: 7, `group x, : count`: 9, `group : n`: 8, `group : sum`: 11, `group : count n`: 14, `group : sum n m`: 14, `group : count,`: 14, `group : sum 5`: 12,
		`group : : count`: 8, `group 5 : count`: 6, `group : least n`: 8, `group : sum (n)`: 12, `group , : count`: 6,
	} {
		wantFault(t, ahead+s, len(ahead)+at, api.ErrParse)
	}
}

func TestP12_1How(t *testing.T) {
	for k, how := range []string{"=", "!=", "<", "<=", ">", ">="} {
		wantCond(t, "n "+how+" -5", compare("n", k+1, ofInt(-5)))
		wantCond(t, "n"+how+`"x"`, compare("n", k+1, ofStr("x")))
		wantCond(t, "n"+how+"true", compare("n", k+1, ofBool(1)))
		wantCond(t, "n"+how+"false", compare("n", k+1, ofBool(0)))
	}
	wantCond(t, `n has "x\"y"`, api.Node{Kind: api.PHas, S: "n", V: ofStr(`x"y`)})
	wantCond(t, `n has ""`, api.Node{Kind: api.PHas, S: "n", V: ofStr("")})
	wantCond(t, `n = "true"`, compare("n", api.Eq, ofStr("true")))
}

func TestP12_1Together(t *testing.T) {
	a, b, c, d := compare("a", api.Eq, ofInt(1)), compare("b", api.Eq, ofInt(2)), compare("c", api.Eq, ofInt(3)), compare("d", api.Eq, ofInt(4))
	wantCond(t, `a=1 and b=2`, a, b, above(api.PAnd, 0, 1))
	wantCond(t, `a=1 or b=2`, a, b, above(api.POr, 0, 1))
	wantCond(t, `a=1 and b=2 and c=3 and d=4`, a, b, above(api.PAnd, 0, 1), c, above(api.PAnd, 2, 3), d, above(api.PAnd, 4, 5))
	wantCond(t, `a=1 or b=2 or c=3`, a, b, above(api.POr, 0, 1), c, above(api.POr, 2, 3))
	wantCond(t, `a=1 or b=2 and c=3`, a, b, c, above(api.PAnd, 1, 2), above(api.POr, 0, 3))
	wantCond(t, `a=1 and b=2 or c=3`, a, b, above(api.PAnd, 0, 1), c, above(api.POr, 2, 3))
	wantCond(t, `a=1 and b=2 or c=3 and d=4`, a, b, above(api.PAnd, 0, 1), c, d, above(api.PAnd, 3, 4), above(api.POr, 2, 5))
	wantCond(t, `(a=1 or b=2) and c=3`, a, b, above(api.POr, 0, 1), c, above(api.PAnd, 2, 3))
	wantCond(t, `a=1 and (b=2 and c=3)`, a, b, c, above(api.PAnd, 1, 2), above(api.PAnd, 0, 3))
	wantCond(t, `a=1 or (b=2 or c=3)`, a, b, c, above(api.POr, 1, 2), above(api.POr, 0, 3))
	wantCond(t, `((a=1))`, a)
	wantCond(t, `not a=1`, a, above(api.PNot, 0))
	wantCond(t, `not not a=1`, a, above(api.PNot, 0), above(api.PNot, 1))
	wantCond(t, `not a=1 and b=2`, a, above(api.PNot, 0), b, above(api.PAnd, 1, 2))
	wantCond(t, `not a=1 or not b=2`, a, above(api.PNot, 0), b, above(api.PNot, 2), above(api.POr, 1, 3))
	wantCond(t, `not (a=1 and b=2)`, a, b, above(api.PAnd, 0, 1), above(api.PNot, 2))
	wantCond(t, `a=1 and not not (b=2 or c=3)`, a, b, c, above(api.POr, 1, 2), above(api.PNot, 3), above(api.PNot, 4), above(api.PAnd, 0, 5))
}

// The numbers are those of tokens.
func TestP12_1NoConds(t *testing.T) {
	for s, at := range map[string]int{
		``: 0, `5`: 0, `5 = n`: 0, `"a" = n`: 0, `=`: 0, `)`: 0, `n`: 1, `n n`: 1, `n 5`: 1, `n |`: 1, `n =`: 2, `n = m`: 2, `n = )`: 2, `n = not`: 2, `n = = 5`: 2, `n = has`: 2, `n = (5)`: 2,
		`n has`: 2, `n has 5`: 2, `n has true`: 2, `n has m`: 2, `n has "a" "b"`: 3, `n = 1 n = 2`: 3, `n = 1 and`: 4, `n = 1 or`: 4, `n = 1 and or`: 5, `n = 1 and and n = 1`: 5, `n = 1 not n = 2`: 3,
		`(`: 1, `()`: 1, `(n`: 2, `(n = 1`: 4, `(n = 1 and`: 5, `(n = 1))`: 5, `(n) = 1`: 2, `((n = 1)`: 6, `not`: 1, `not not`: 2, `not = 1`: 1, `not has "a"`: 2, `not )`: 1, `n = 1 | keep n`: 3, `fetch load`: 1, `true`: 1, `n < > 1`: 2,
	} {
		wantCondFault(t, s, at, api.ErrParse)
	}
}

// A name is any word; where a word of the query may stand, it is taken as that.
func TestP12_1Names(t *testing.T) {
	for _, s := range strings.Fields("fetch from to where keep align group top by join union and or has true false count sum min max mean merge time x") {
		f, at := fetch(s), above(api.PNot, 0)
		wantNodes(t, fmt.Sprintf("fetch %s | keep %s | group %s : min %s | top 1 by %s", s, s, s, s, s), f,
			api.Node{Kind: api.QKeep, L: []int{0}, Names: []string{s}}, api.Node{Kind: api.QGroup, L: []int{1}, Names: []string{s}, Aggs: []api.Agg{{Kind: api.Least, Col: s}}}, api.Node{Kind: api.QTop, L: []int{2}, N: 1, S: s})
		wantCond(t, "not "+s+" = true", compare(s, api.Eq, ofBool(1)), at)
		wantCond(t, s+` has "a"`, api.Node{Kind: api.PHas, S: s, V: ofStr("a")})
	}
	wantNodes(t, "fetch not | keep not, a", fetch("not"), api.Node{Kind: api.QKeep, L: []int{0}, Names: []string{"not", "a"}})
	wantNodes(t, "fetch from from 1 to 2", api.Node{Kind: api.QFetch, S: "from", From: 1, To: 2})
	wantFault(t, "fetch load | where not = 1", 23, api.ErrParse)
}

// Words and signs count by their S, whichever of the two they are; as a name only a word does; other kinds never.
func TestP12_1Kinds(t *testing.T) {
	l := cut(t, `fetch a from 1 to 2 | where not (n = true and n has "x") | group b, c : sum n, count | join (fetch b | keep c | align 5) | top 3 by n`)
	want, _, e := parse.Parse(l)
	if e != api.OK {
		t.Fatal(e)
	}
	names := 0
	for k := range l {
		if l[k].Kind == api.TokNumber || l[k].Kind == api.TokText {
			continue
		}
		other := slices.Clone(l)
		other[k].Kind = api.TokWord + api.TokSign - l[k].Kind
		q, at, e := parse.Parse(other)
		if e == api.OK {
			if at != 0 || !same(q.N, want.N) {
				t.Errorf("with the token %d of the other kind: %+v", k, q.N)
			}
		} else if names++; at != k || e != api.ErrParse || l[k].Kind != api.TokWord {
			t.Errorf("the token %d, %q, as a sign: %d, %d", k, l[k].S, at, e)
		}
		for _, kind := range []int{0, api.TokNumber, api.TokText, 5, -1, 1 << 40} {
			// Where true stands a number or a text may stand too.
			if other[k].Kind = kind; l[k].S != "true" || kind != api.TokNumber && kind != api.TokText {
				wantParseFault(t, other, k, api.ErrParse)
			}
		}
	}
	if names != 9 {
		t.Errorf("%d tokens are names", names)
	}
}

// Tokens that Lex does not cut are taken as the table has it.
func TestP12_1OddTokens(t *testing.T) {
	long := strings.Repeat("x", 1000)
	q, at, e := parse.Parse([]api.Token{sign("fetch"), word(long), word("|"), sign("keep"), word(""), word(","), word("|"), word("|"), word("group"), word(":"), sign("count")})
	want := []api.Node{fetch(long), {Kind: api.QKeep, L: []int{0}, Names: []string{"", "|"}}, {Kind: api.QGroup, L: []int{1}, Aggs: []api.Agg{{Kind: api.Count}}}}
	if e != api.OK || at != 0 || !same(q.N, want) {
		t.Errorf("%+v, %d, %d", q.N, at, e)
	}
	q, at, e = parse.Cond([]api.Token{word("("), word(")"), word("="), text(long), word(")")})
	if e != api.OK || at != 0 || !same(q.N, []api.Node{compare(")", api.Eq, ofStr(long))}) {
		t.Errorf("%+v, %d, %d", q.N, at, e)
	}
	// What a token has beside what its kind names does not matter.
	q, at, e = parse.Cond([]api.Token{{Kind: api.TokWord, S: "a", N: 7, At: 9}, {Kind: api.TokSign, S: "<", N: 8}, {Kind: api.TokNumber, S: "x", N: 5, At: -3}})
	if e != api.OK || at != 0 || !same(q.N, []api.Node{compare("a", api.Lt, ofInt(5))}) {
		t.Errorf("%+v, %d, %d", q.N, at, e)
	}
	q, at, e = parse.Cond([]api.Token{word("a"), sign("has"), {Kind: api.TokText, S: "x", N: 5}})
	if e != api.OK || at != 0 || !same(q.N, []api.Node{{Kind: api.PHas, S: "a", V: ofStr("x")}}) {
		t.Errorf("%+v, %d, %d", q.N, at, e)
	}
}

func TestP12_1Depth(t *testing.T) {
	times := strings.Repeat
	for _, s := range []string{times("(", 16), times("not ", 16), times("not (", 8), times("(not ", 8), times("(n = 1 and ", 8) + times("not ", 8), times("( not n = 1 or not ( n = 1 ) or ", 8) + times("(", 8)} {
		closed := " n = 1" + times(")", strings.Count(s, "(")-strings.Count(s, ")"))
		if _, at, e := parse.Cond(cut(t, s+closed)); e != api.OK || at != 0 {
			t.Errorf("%s: %d, %d", s+closed, at, e)
		}
		for _, one := range []string{"(", "not", "not not", "( n = 1 ) and", "( 5", "not )"} {
			wantCondFault(t, s+one+closed, len(cut(t, s)), api.ErrLong)
		}
		wantCondFault(t, s+"n ("+closed, len(cut(t, s))+1, api.ErrParse)
		wantCondFault(t, s, len(cut(t, s)), api.ErrParse)
	}
}

// The brackets of queries count too.
func TestP12_1DepthOfQueries(t *testing.T) {
	times := strings.Repeat
	deep := times("fetch a | join (fetch b | union (", 8)
	s := "fetch c" + times(")", 16)
	if q, at, e := parse.Query(deep + s); e != api.OK || at != 0 || len(q.N) != 33 {
		t.Errorf("%d nodes, %d, %d", len(q.N), at, e)
	}
	for _, step := range []string{"join", "union"} {
		more := deep + "fetch c | " + step + " "
		wantFault(t, more+"(fetch d)", len(more), api.ErrLong)
		wantFault(t, more+"(", len(more), api.ErrLong)
		wantFault(t, more+"fetch", len(more), api.ErrParse)
		wantFault(t, more, len(more), api.ErrParse)
	}
	more := deep + "fetch c | where "
	wantFault(t, more+"(n = 1)", len(more), api.ErrLong)
	wantFault(t, more+"not n = 1", len(more), api.ErrLong)
	wantFault(t, more+"n not", len(more)+2, api.ErrParse)
	// A name is no not that is open.
	if _, at, e := parse.Query(deep + "fetch not | keep not, not" + times(")", 16)); e != api.OK || at != 0 {
		t.Errorf("%d, %d", at, e)
	}
}

// What is closed does not count any more.
func TestP12_1Closed(t *testing.T) {
	times := strings.Repeat
	wantKinds := func(s string, n int) {
		t.Helper()
		if q, at, e := parse.Query(s); e != api.OK || at != 0 || len(q.N) != n {
			t.Errorf("%s: %d nodes, %d, %d", s, len(q.N), at, e)
		}
	}
	wantKinds("fetch a | where (n = 1)"+times(" and (n = 1)", 40), 83)
	wantKinds("fetch a | where not n = 1"+times(" or not n = 1", 40), 124)
	wantKinds("fetch a"+times(" | join (fetch b)", 60), 121)
	wantKinds("fetch a"+times(" | where not (n = 1)", 40), 121)
	wantKinds("fetch a | where "+times("(", 16)+"n = 1"+times(")", 16)+" and "+times("not ", 16)+"n = 1 | join (fetch b | where "+times("(", 15)+"n = 1"+times(")", 16), 25)
}

// What is said first, from the left, is told.
func TestP12_1FirstFault(t *testing.T) {
	deep := strings.Repeat("(", 17)
	wantFault(t, "fetch a | where n "+deep, 18, api.ErrParse)
	wantFault(t, "fetch a | where "+deep+" | 5 by", 32, api.ErrLong)
	wantFault(t, "fetch a by | where "+deep, 8, api.ErrParse)
	wantCondFault(t, "n = m and "+deep, 2, api.ErrParse)
	wantCondFault(t, "n = 1 and "+deep+"m", 20, api.ErrLong)
	wantCondFault(t, "n = 1 and n "+deep, 5, api.ErrParse)
	// More nodes than may be are told behind all that.
	many := "n = 1" + strings.Repeat(" or n = 1", 80)
	wantCondFault(t, many, 0, api.ErrLong)
	wantCondFault(t, many+" or", 324, api.ErrParse)
	wantCondFault(t, many+" n", 323, api.ErrParse)
	wantCondFault(t, many+" or "+deep, 340, api.ErrLong)
}

func TestP12_1Tokens(t *testing.T) {
	l := append(cut(t, "fetch load | align 5 | keep n"), slices.Repeat(cut(t, ", n"), 508)...)
	if q, at, e := parse.Parse(l); len(l) != 1024 || e != api.OK || at != 0 || len(q.N) != 3 || len(q.N[2].Names) != 509 {
		t.Errorf("%d tokens: %d nodes, %d, %d", len(l), len(q.N), at, e)
	}
	wantParseFault(t, append(l, number(5)), 0, api.ErrLong)
	wantParseFault(t, append(l, cut(t, ", n")...), 0, api.ErrLong)
	wantParseFault(t, append(l[:1023:1023], number(5)), 1023, api.ErrParse)
	wantParseFault(t, l[:1023], 1023, api.ErrParse)
	wantParseFault(t, make([]api.Token, 1024), 0, api.ErrParse)
	for _, n := range []int{1025, 1026, 5000, 1 << 20} {
		wantParseFault(t, make([]api.Token, n), 0, api.ErrLong)
		if q, at, e := parse.Cond(slices.Repeat([]api.Token{sign("(")}, n)); e != api.ErrLong || at != 0 || q.N != nil {
			t.Errorf("Cond of %d tokens: %d, %d", n, at, e)
		}
	}
	wantParseFault(t, append(cut(t, "fetch load | where"), slices.Repeat([]api.Token{sign("(")}, 1020)...), 20, api.ErrLong)
}

func TestP12_1Nodes(t *testing.T) {
	for n, s := range map[int]string{127: "n = 1" + strings.Repeat(" and n = 1", 63), 128: "not n = 1" + strings.Repeat(" or n = 1", 63), 129: "n = 1" + strings.Repeat(" and n = 1", 64), 130: "not n = 1" + strings.Repeat(" or n = 1", 64)} {
		if n > 128 {
			wantCondFault(t, s, 0, api.ErrLong)
		} else if q, at, e := parse.Cond(cut(t, s)); e != api.OK || at != 0 || len(q.N) != n {
			t.Errorf("%d nodes, not %d: %d, %d", len(q.N), n, at, e)
		}
	}
	s := "fetch load" + strings.Repeat(" | align 5", 127)
	if q, at, e := parse.Query(s); e != api.OK || at != 0 || len(q.N) != 128 || !slices.Equal(q.N[127].L, []int{126}) {
		t.Errorf("%d nodes, %d, %d", len(q.N), at, e)
	}
	wantParseFault(t, cut(t, s+" | align 5"), 0, api.ErrLong)
	wantParseFault(t, cut(t, s+" | align 5 | "), 387, api.ErrParse)
}

func TestP12_1Made(t *testing.T) {
	r := rand.New(rand.NewSource(5))
	for range 5000 {
		m := (&maker{r: r}).makeQuery(1 + r.Intn(3))
		q, at, e := parse.Parse(m.tokens)
		if len(m.nodes) > 128 || len(m.tokens) > 1024 {
			continue
		}
		if e != api.OK || at != 0 || !same(q.N, m.nodes) {
			t.Fatalf("Parse(%v) is %+v, %d, %d, not %+v", m.tokens, q.N, at, e, m.nodes)
		}
		wantNamedOnce(t, q)
	}
}

func TestP12_2CondMade(t *testing.T) {
	r := rand.New(rand.NewSource(6))
	for range 5000 {
		m := &maker{r: r}
		m.cond(m.tree(1+r.Intn(5)), 0)
		q, at, e := parse.Cond(m.tokens)
		if e != api.OK || at != 0 || !same(q.N, m.nodes) {
			t.Fatalf("Cond(%v) is %+v, %d, %d, not %+v", m.tokens, q.N, at, e, m.nodes)
		}
		wantNamedOnce(t, q)
	}
}

func TestP12_2QueryLex(t *testing.T) {
	wantFault(t, "fetch A", 6, api.ErrLex)
	wantFault(t, "by fetch 007", 9, api.ErrLex)
	wantFault(t, `fetch load | where n = "`, 23, api.ErrLex)
	wantFault(t, strings.Repeat("(", 2047)+"!", 2047, api.ErrLex)
	wantFault(t, strings.Repeat(" ", 2049), 0, api.ErrLong)
	wantFault(t, "fetch load "+strings.Repeat("!", 2049), 0, api.ErrLong)
}

func TestP12_2QueryPlaces(t *testing.T) {
	wantFault(t, "", 0, api.ErrParse)
	wantFault(t, " \n\t", 3, api.ErrParse)
	wantFault(t, "  by", 2, api.ErrParse)
	wantFault(t, "fetch load | \n ", 15, api.ErrParse)
	wantFault(t, "\n fetch load  |  by", 17, api.ErrParse)
	wantFault(t, strings.Repeat(" ", 2048), 2048, api.ErrParse)
	// Of too many tokens, or nodes, the number is 0: the first token's place.
	wantFault(t, strings.Repeat("|", 1025), 0, api.ErrLong)
	wantFault(t, " \n "+strings.Repeat("|", 1025), 3, api.ErrLong)
	wantFault(t, " \n "+strings.Repeat("|", 1024), 3, api.ErrParse)
	wantFault(t, "  fetch load"+strings.Repeat(" | align 5", 128), 2, api.ErrLong)
	wantFault(t, "fetch load"+strings.Repeat(" | align 5", 128), 0, api.ErrLong)
	wantFault(t, " fetch  load |where  "+strings.Repeat("( ", 17), 53, api.ErrLong)
}

// Query is Parse of what Lex cuts, with places for numbers.
func TestP12_2QueryByParse(t *testing.T) {
	r := rand.New(rand.NewSource(8))
	pieces := strings.Split("fetch load;fetch load | where n = 1; | ;keep n; join (;);fetch;n;5;\"a\"; = ;and; or ;not ;(;,;:;group;count;  ;\n;A;-5;align 5;where ; !", ";")
	for range 20000 {
		s := strings.Repeat(" ", r.Intn(2))
		for range r.Intn(12) {
			s += pieces[r.Intn(len(pieces))]
		}
		l, at, e := lex.Lex(s)
		var want api.Query
		if e == api.OK {
			want, at, e = parse.Parse(l)
			if e != api.OK && at < len(l) {
				at = l[at].At
			} else if e != api.OK {
				at = len(s)
			}
		}
		if q, gotAt, got := parse.Query(s); got != e || gotAt != at || !same(q.N, want.N) {
			t.Fatalf("Query(%q) is %+v, %d, %d, not %+v, %d, %d", s, q.N, gotAt, got, want.N, at, e)
		}
	}
}

func TestP12_3NamedOnce(t *testing.T) {
	for _, s := range []string{
		`fetch a`, `fetch a | where a = 1 and b = 2 or not (c = 3 or d = 4 and e = 5) | keep a`,
		`fetch a | join (fetch b | where n = 1 | join (fetch c | union (fetch d))) | union (fetch e) | group : count | where not not n has "x" | top 3 by n`,
	} {
		q, _, e := parse.Query(s)
		if e != api.OK {
			t.Errorf("%s: %d", s, e)
		}
		wantNamedOnce(t, q)
	}
}

func TestR6SameEachTime(t *testing.T) {
	for _, s := range []string{`fetch a | where n = 1 or m = 2 | group x : count`, `fetch a | by`, `fetch a | where ((n = 1)`, strings.Repeat("(", 30), "!"} {
		q, at, e := parse.Query(s)
		parse.Query("fetch other | join (fetch x")
		again, atAgain, eAgain := parse.Query(s)
		if !same(q.N, again.N) || at != atAgain || e != eAgain {
			t.Errorf("Query(%q) is %+v, then %+v", s, q, again)
		}
	}
}

// What is handed in stays as it was, with the room behind its end.
func TestR7HandedIn(t *testing.T) {
	for _, s := range []string{`fetch a | keep b, c | where n = "x" | group b : sum n, count`, `fetch a | keep b, 5`, `n = 1 and not (m = 2)`, `not (`} {
		room := append(cut(t, s), word("spare"), sign("spare"), number(7))
		l := room[:len(room)-3]
		before := slices.Clone(room)
		parse.Parse(l)
		parse.Cond(l)
		if !slices.Equal(room, before) {
			t.Errorf("%q: %v is %v now", s, before, room)
		}
	}
}

// What is answered is the caller's own: no list of it is another's, or one of what was handed in.
func TestR7OwnMemory(t *testing.T) {
	s := `fetch a | keep b, c | keep b, c | where n = "x" and m = 1 | group b, c : sum n, count | join (fetch b | keep d, e)`
	l := cut(t, s)
	q, _, _ := parse.Parse(l)
	want, _, _ := parse.Parse(cut(t, s))
	for k := range l {
		l[k] = api.Token{Kind: 99, S: "spoilt"}
	}
	if !same(q.N, want.N) {
		t.Errorf("the tokens are kept: %+v", q.N)
	}
	for i := range q.N {
		q.N[i].L = append(q.N[i].L, -9)
		q.N[i].Names = append(q.N[i].Names, "spoilt")
		q.N[i].Aggs = append(q.N[i].Aggs, api.Agg{Kind: 99})
	}
	for i := range q.N {
		n, w := q.N[i], want.N[i]
		if !slices.Equal(n.L, append(slices.Clone(w.L), -9)) || !slices.Equal(n.Names, append(slices.Clone(w.Names), "spoilt")) || !slices.Equal(n.Aggs, append(slices.Clone(w.Aggs), api.Agg{Kind: 99})) {
			t.Errorf("the node %d has lists of another: %+v", i, n)
		}
	}
	if again, _, _ := parse.Query(s); !same(again.N, want.N) {
		t.Errorf("what was answered is kept: %+v", again.N)
	}
}
