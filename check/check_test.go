package check_test

import (
	"math"
	"math/rand"
	"reflect"
	"slices"
	"strconv"
	"strings"
	"testing"

	"catchment/api"
	"catchment/check"
	"catchment/parse"
	"catchment/print"
	"catchment/schema"
)

const longestName = "abcdefghijklmnopqrstuvwx"

func col(name string, kind int) api.Col { return api.Col{Name: name, Kind: kind} }

// colsOf reads columns as the chapter's examples have them: n (Int) is n:1.
func colsOf(s string) []api.Col {
	var l []api.Col
	for _, part := range strings.Fields(s) {
		name, kind, _ := strings.Cut(part, ":")
		n, err := strconv.Atoi(kind)
		if err != nil {
			panic(s)
		}
		l = append(l, col(name, n))
	}
	return l
}

// intCols are n columns, whose names begin with a letter of their own.
func intCols(letter string, n int) []api.Col {
	var l []api.Col
	for k := range n {
		l = append(l, col(letter+strconv.Itoa(k), api.Int))
	}
	return l
}

const (
	loadCols = "time:1 host:2 zone:2 n:1 up:3"
	latCols  = "time:1 host:2 h:4"
)

func schemas() []api.Schema {
	return []api.Schema{
		{Name: "load", Keys: colsOf("host:2 zone:2"), Vals: colsOf("n:1 up:3")},
		{Name: "lat", Keys: colsOf("host:2"), Vals: colsOf("h:4")},
		{Name: "wide", Keys: colsOf("host:2 kb:3 kc:1 kd:1"), Vals: colsOf("va:1 vb:2 vc:3 vd:4")},
		{Name: "alike", Keys: colsOf("host:2 zone:2"), Vals: colsOf("n:1 up:3")},
		{Name: "other", Keys: colsOf("host:1"), Vals: colsOf("n:2")},
		{Name: "long", Keys: colsOf("host:2"), Vals: []api.Col{col(longestName[:18], api.Hist), col(longestName[:19], api.Hist), col(longestName[:20], api.Int), col(longestName[:21], api.Int)}},
	}
}

func parsed(t *testing.T, s string) api.Query {
	t.Helper()
	q, at, e := parse.Query(s)
	if e != api.OK {
		t.Fatalf("Query(%q): %d at %d", s, e, at)
	}
	return q
}

// wantCols holds Cols, and Types' last columns, of a query to columns.
func wantCols(t *testing.T, s, want string) {
	t.Helper()
	q := parsed(t, s)
	if got, e := check.Cols(schemas(), q); e != api.OK || !slices.Equal(got, colsOf(want)) {
		t.Errorf("Cols of %q is %v, %d, not %v", s, got, e, want)
	}
	all, at, e := check.Types(schemas(), q, nil)
	if e != api.OK || at != 0 || len(all) != len(q.N) || !slices.Equal(all[len(all)-1], colsOf(want)) {
		t.Errorf("Types of %q is %v, %d, %d, not %v", s, all, at, e, want)
	}
}

// wantError is told by Cols, and by Types at that node.
func wantError(t *testing.T, s string, at int, want api.Errno) {
	t.Helper()
	q := parsed(t, s)
	if got, e := check.Cols(schemas(), q); e != want || len(got) != 0 {
		t.Errorf("Cols of %q is %v, %d, not %d", s, got, e, want)
	}
	wantTypesError(t, q, nil, at, want)
}

// wantLast is an error of the last node.
func wantLast(t *testing.T, s string, want api.Errno) {
	t.Helper()
	wantError(t, s, len(parsed(t, s).N)-1, want)
}

func wantTypesError(t *testing.T, q api.Query, inputs [][]api.Col, at int, want api.Errno) {
	t.Helper()
	if all, got, e := check.Types(schemas(), q, inputs); e != want || got != at || len(all) != 0 {
		t.Errorf("Types(%+v) is %v, %d, %d, not %d, %d", q, all, got, e, at, want)
	}
}

// wantTypes are all nodes' columns.
func wantTypes(t *testing.T, q api.Query, inputs [][]api.Col, want ...string) {
	t.Helper()
	all, at, e := check.Types(schemas(), q, inputs)
	if e != api.OK || at != 0 || len(all) != len(want) {
		t.Errorf("Types(%+v) is %v, %d, %d", q, all, at, e)
		return
	}
	for i := range want {
		if !slices.Equal(all[i], colsOf(want[i])) {
			t.Errorf("Types(%+v) is %v of the node %d, not %s", q, all[i], i, want[i])
		}
	}
}

func nodes(l ...api.Node) api.Query { return api.Query{N: l} }

func fetch(s string) api.Node { return api.Node{Kind: api.QFetch, S: s, To: api.MaxTime - 1} }

func input(n int) api.Node { return api.Node{Kind: api.QInput, N: n} }

func cmp(s string, how int, v api.Value) api.Node {
	return api.Node{Kind: api.PCmp, S: s, N: how, V: v}
}

func hasText(s, text string) api.Node {
	return api.Node{Kind: api.PHas, S: s, V: api.Value{Kind: api.Str, S: text}}
}

func of(kind int, l ...int) api.Node { return api.Node{Kind: kind, L: l} }

func intOf(n int) api.Value { return api.Value{Kind: api.Int, N: n} }

func strOf(s string) api.Value { return api.Value{Kind: api.Str, S: s} }

func boolOf(n int) api.Value { return api.Value{Kind: api.Bool, N: n} }

func TestExamples(t *testing.T) {
	wantCols(t, "fetch load | group host : count, mean n", "host:2 count:1 mean_n:1")
	wantError(t, `fetch load | where n has "a"`, 2, api.ErrType)
	wantError(t, "fetch load | keep x", 1, api.ErrType)
	wantError(t, "fetch x", 0, api.ErrSchema)
	wantError(t, "fetch load | where up < true", 2, api.ErrType)
}

func TestP14_1Name(t *testing.T) {
	for _, c := range []struct {
		a    api.Agg
		want string
	}{
		{api.Agg{Kind: api.Count}, "count"}, {api.Agg{Kind: api.Count, Col: "x"}, "count"}, {api.Agg{Kind: api.Sum, Col: "n"}, "sum_n"}, {api.Agg{Kind: api.Least, Col: "n"}, "min_n"},
		{api.Agg{Kind: api.Most, Col: "n"}, "max_n"}, {api.Agg{Kind: api.Mean, Col: "n"}, "mean_n"}, {api.Agg{Kind: api.Merge, Col: "h"}, "merge_h"}, {api.Agg{Kind: api.Sum}, "sum_"},
		{api.Agg{Kind: api.Merge, Col: longestName}, "merge_" + longestName}, {api.Agg{Kind: api.Mean, Col: "A b\x00"}, "mean_A b\x00"}, {api.Agg{}, ""}, {api.Agg{Col: "n"}, ""},
		{api.Agg{Kind: -1, Col: "n"}, ""}, {api.Agg{Kind: 7, Col: "n"}, ""}, {api.Agg{Kind: math.MinInt, Col: "n"}, ""}, {api.Agg{Kind: math.MaxInt, Col: "n"}, ""},
	} {
		if got := check.Name(c.a); got != c.want {
			t.Errorf("Name(%+v) is %q, not %q", c.a, got, c.want)
		}
	}
}

// Of each node its columns, of a condition none.
func TestP14_2All(t *testing.T) {
	wantTypes(t, parsed(t, "fetch load | where n > 5 and not host has \"a\" | keep host, n | top 3 by n"), nil,
		loadCols, "", "", "", "", loadCols, "host:2 n:1", "host:2 n:1")
	wantTypes(t, parsed(t, "fetch lat | join (fetch load | keep zone, host)"), nil, latCols, loadCols, "zone:2 host:2", latCols+" zone:2")
	wantTypes(t, nodes(), nil)
	wantTypes(t, nodes(cmp("x", api.Eq, intOf(1))), nil, "")
	wantTypes(t, nodes(fetch("lat"), fetch("load")), nil, latCols, loadCols)
}

// Types is no Check of a query: one node may be named by many, and what its kind does not have is not looked at.
func TestP14_2AnyNodes(t *testing.T) {
	q := nodes(fetch("load"), of(api.QUnion, 0, 0), of(api.QJoin, 1, 0), cmp("n", api.Eq, intOf(1)), of(api.PAnd, 3, 3), of(api.QWhere, 0, 4), of(api.QWhere, 5, 3))
	wantTypes(t, q, nil, loadCols, loadCols, loadCols, "", "", loadCols, loadCols)
	q = nodes(api.Node{Kind: api.QFetch, S: "lat", N: 7, From: 9, To: -9, V: strOf("x"), Names: []string{"x"}, Aggs: []api.Agg{{}}}, api.Node{Kind: api.PHas, S: "host", N: 99, V: strOf(""), From: 1}, of(api.QWhere, 0, 1))
	wantTypes(t, q, nil, latCols, "", latCols)
}

func TestP14_2Kinds(t *testing.T) {
	for _, kind := range []int{0, 10, 16, 17, -1, math.MinInt, math.MaxInt} {
		for _, l := range [][]int{nil, {0}, {0, 0}, {0, 1}} {
			q := nodes(fetch("load"), cmp("n", api.Eq, intOf(1)), of(kind, l...))
			wantTypesError(t, q, nil, 2, api.ErrParse)
		}
	}
}

// begun is rows, conditions and rows, for nodes behind them to name.
func begun() []api.Node {
	return []api.Node{fetch("load"), cmp("n", api.Eq, intOf(1)), hasText("host", "x"), of(api.QWhere, 0, 1), of(api.PNot, 2)}
}

// filled has what one of its kind needs beside L.
func filled(kind int, l []int) api.Node {
	n := of(kind, l...)
	n.N = 1
	switch kind {
	case api.QFetch:
		n.S = "load"
	case api.QInput:
		n.N = 0
	case api.QKeep:
		n.Names = []string{"n"}
	case api.QGroup:
		n.Aggs = []api.Agg{{Kind: api.Count}}
	case api.QTop:
		n.S = "n"
	}
	return n
}

// lists are all of up to n of some numbers.
func lists(numbers []int, n int) [][]int {
	all := [][]int{nil}
	for from := 0; n > 0; n-- {
		to := len(all)
		for _, l := range all[from:to] {
			for _, k := range numbers {
				all = append(all, append(slices.Clone(l), k))
			}
		}
		from = to
	}
	return all
}

// Each kind has as many L as the chapter says, rows and conditions where these are meant, all ahead.
func TestP14_2Below(t *testing.T) {
	kinds := map[int]string{
		1: "", 9: "", 14: "", 15: "", 3: "r", 4: "r", 5: "r", 6: "r", 7: "rr", 8: "rr", 2: "rc", 13: "c", 11: "cc", 12: "cc",
	}
	letters := map[int]string{0: "r", 1: "c", 2: "c", 3: "r", 4: "c"}
	inputs := [][]api.Col{colsOf("n:1")}
	for _, l := range lists([]int{0, 1, 2, 3, 4, 5, 6, -1, math.MinInt, math.MaxInt}, 3) {
		shape := ""
		for _, k := range l {
			if letter, ok := letters[k]; ok {
				shape += letter
			} else {
				shape += "?"
			}
		}
		for kind, want := range kinds {
			q := api.Query{N: append(begun(), filled(kind, l), fetch("lat"))}
			all, at, e := check.Types(schemas(), q, inputs)
			if shape == want && (e != api.OK || at != 0 || len(all) != 7) {
				t.Fatalf("the kind %d with %v is %v, %d, %d", kind, l, all, at, e)
			} else if shape != want && (e != api.ErrParse || at != 5 || len(all) != 0) {
				t.Fatalf("the kind %d with %v is %v, %d, %d", kind, l, all, at, e)
			}
		}
	}
}

func TestP14_2Fetch(t *testing.T) {
	wantCols(t, "fetch load", loadCols)
	wantCols(t, "fetch lat from 5 to 1", latCols)
	wantError(t, "fetch loa", 0, api.ErrSchema)
	wantError(t, "fetch load | join (fetch loads)", 1, api.ErrSchema)
	wantTypesError(t, nodes(fetch("")), nil, 0, api.ErrSchema)
	wantTypesError(t, nodes(fetch("load"), fetch("time")), nil, 1, api.ErrSchema)
	if _, at, e := check.Types(nil, nodes(fetch("load")), nil); e != api.ErrSchema || at != 0 {
		t.Errorf("without schemas: %d, %d", at, e)
	}
}

// QFetch asks schema.Find and schema.Cols, whatever the schemas are.
func TestP14_2FetchOddSchemas(t *testing.T) {
	odd := []api.Schema{
		{Name: "", Keys: intCols("k", 20), Vals: colsOf("time:2 k3:4")}, {Name: "a", Vals: []api.Col{{Name: "X Y", Kind: 9}}}, {Name: "a", Vals: colsOf("second:1")},
	}
	for i, want := range [][]api.Col{slices.Concat(colsOf("time:1"), intCols("k", 20), colsOf("time:2 k3:4")), {{Name: "time", Kind: api.Int}, {Name: "X Y", Kind: 9}}} {
		all, at, e := check.Types(odd, nodes(fetch(odd[i].Name)), nil)
		if e != api.OK || at != 0 || len(all) != 1 || !slices.Equal(all[0], want) {
			t.Errorf("%v, %d, %d, not %v", all, at, e, want)
		}
	}
	// A column's name is the first one's.
	q := nodes(fetch(""), api.Node{Kind: api.QKeep, L: []int{0}, Names: []string{"k3", "time"}})
	if all, _, e := check.Types(odd, q, nil); e != api.OK || !slices.Equal(all[1], colsOf("k3:1 time:1")) {
		t.Errorf("%v, %d", all, e)
	}
	// More than 16 columns are none of a join.
	q = nodes(fetch(""), fetch("a"), of(api.QJoin, 1, 0))
	if all, at, e := check.Types(odd, q, nil); e != api.ErrType || at != 2 || len(all) != 0 {
		t.Errorf("%v, %d, %d", all, at, e)
	}
}

func TestP14_2Input(t *testing.T) {
	sixteen := intCols("c", 16)
	inputs := [][]api.Col{
		colsOf("a:1 p#0:2 p#0#n:3 z:4"), sixteen, intCols("c", 17), nil, {}, colsOf("a:1 a:2"), {{Name: "A", Kind: 1}}, {{Name: "", Kind: 1}}, {{Name: "a", Kind: 0}}, {{Name: "a", Kind: 5}},
		{{Name: longestName, Kind: api.Hist}}, {{Name: longestName + "y", Kind: api.Hist}},
	}
	for i, may := range []bool{true, true, false, false, false, false, false, false, false, false, true, false} {
		q := nodes(input(0), input(i), input(i))
		if !may {
			wantTypesError(t, q, inputs, 1, api.ErrParse)
			continue
		}
		all, at, e := check.Types(nil, q, inputs)
		if e != api.OK || at != 0 || len(all) != 3 || !slices.Equal(all[0], inputs[0]) || !slices.Equal(all[1], inputs[i]) || !slices.Equal(all[2], inputs[i]) {
			t.Errorf("of the input %d: %v, %d, %d", i, all, at, e)
		}
	}
	for _, n := range []int{-1, len(inputs), math.MinInt, math.MaxInt} {
		wantTypesError(t, nodes(input(0), input(n)), inputs, 1, api.ErrParse)
	}
	wantTypesError(t, nodes(input(0)), nil, 0, api.ErrParse)
	// Inputs that no node names may be anything.
	wantTypes(t, nodes(fetch("lat")), inputs, latCols)
}

// whereOf is a QWhere of one condition on the first input.
func whereOf(n api.Node) api.Query { return nodes(input(0), n, of(api.QWhere, 0, 1)) }

const fourKinds = "i:1 s:2 b:3 h:4"

func TestP14_2WhereCmp(t *testing.T) {
	inputs := [][]api.Col{colsOf(fourKinds)}
	kinds := map[string]int{"i": api.Int, "s": api.Str, "b": api.Bool}
	values := []api.Value{
		intOf(0), intOf(math.MinInt), intOf(math.MaxInt), strOf(""), strOf("\xff\x00"), strOf(strings.Repeat("x", 64)), boolOf(0), boolOf(1),
		{}, {Kind: api.Hist}, {Kind: api.Hist, H: [8]int{1}}, {Kind: 5}, {Kind: -1}, {Kind: api.Int, S: "x"}, {Kind: api.Int, H: [8]int{7: 1}}, {Kind: api.Str, N: 1}, {Kind: api.Str, H: [8]int{1}},
		strOf(strings.Repeat("x", 65)), boolOf(2), boolOf(-1), {Kind: api.Bool, S: "true"}, {Kind: api.Bool, N: 1, H: [8]int{1}},
	}
	const valid = 8
	for _, name := range []string{"i", "s", "b", "h", "x", "", "I"} {
		for k, v := range values {
			for _, how := range []int{0, 1, 2, 3, 4, 5, 6, 7, -1, math.MinInt, math.MaxInt} {
				q := whereOf(cmp(name, how, v))
				may := k < valid && kinds[name] == v.Kind && how >= 1 && how <= 6 && (how <= 2 || name != "b")
				if may {
					wantTypes(t, q, inputs, fourKinds, "", fourKinds)
				} else {
					wantTypesError(t, q, inputs, 2, api.ErrType)
				}
			}
		}
	}
}

func TestP14_2WhereHas(t *testing.T) {
	inputs := [][]api.Col{colsOf(fourKinds)}
	for _, text := range []string{"", "x", strings.Repeat("x", 64)} {
		wantTypes(t, whereOf(hasText("s", text)), inputs, fourKinds, "", fourKinds)
	}
	for _, name := range []string{"i", "b", "h", "x", ""} {
		wantTypesError(t, whereOf(hasText(name, "x")), inputs, 2, api.ErrType)
	}
	for _, v := range []api.Value{{}, intOf(1), boolOf(1), {Kind: api.Hist}, {Kind: api.Str, N: 1}, {Kind: api.Str, S: "x", H: [8]int{1}}, strOf(strings.Repeat("x", 65)), {S: "x"}} {
		wantTypesError(t, whereOf(api.Node{Kind: api.PHas, S: "s", V: v}), inputs, 2, api.ErrType)
	}
	// Where the column is of the value's kind, and that is none of a text.
	wantTypesError(t, whereOf(api.Node{Kind: api.PHas, S: "i", V: intOf(1)}), inputs, 2, api.ErrType)
	wantTypesError(t, whereOf(api.Node{Kind: api.PHas, S: "h", V: api.Value{Kind: api.Hist}}), inputs, 2, api.ErrType)
}

// Each one within a condition must fit, wherever it stands.
func TestP14_2WhereWithin(t *testing.T) {
	shapes := []string{"A", "not A", "not not A", "A and B", "A or B", "A and B and C", "A or B and C", "not (A or B) and C", "A and (B or not C)", "(A or B) and (C or D)", "not (not (A and not (B or C)) or D)"}
	for _, shape := range shapes {
		laid := func(bad string) string {
			s := shape
			for _, letter := range []string{"A", "B", "C", "D"} {
				fit := map[string]string{"A": "n > 5", "B": `host has "x"`, "C": "up = true", "D": "time < 9"}[letter]
				if letter == bad {
					fit = map[string]string{"A": "n > true", "B": `n has "x"`, "C": "up > true", "D": "at < 9"}[letter]
				}
				s = strings.ReplaceAll(s, letter, fit)
			}
			return "fetch load | where " + s
		}
		wantCols(t, laid(""), loadCols)
		for _, letter := range []string{"A", "B", "C", "D"} {
			if strings.Contains(shape, letter) {
				wantLast(t, laid(letter), api.ErrType)
			}
		}
	}
}

// A condition fits some rows' columns or not: each QWhere asks anew, and none but a QWhere asks.
func TestP14_2WhereOfManyRows(t *testing.T) {
	wantError(t, "fetch load | where n = 1 | keep host | where n = 1", 5, api.ErrType)
	wantCols(t, `fetch lat | where host = "a" | join (fetch load | where n = 1 | keep host)`, latCols)
	n := cmp("n", api.Eq, intOf(1))
	q := nodes(fetch("load"), n, of(api.PNot, 1), of(api.QWhere, 0, 2), fetch("alike"), of(api.QWhere, 4, 2), fetch("lat"), of(api.QWhere, 6, 1))
	wantTypesError(t, q, nil, 7, api.ErrType)
	q.N[7].L[1] = 2
	wantTypesError(t, q, nil, 7, api.ErrType)
	wantTypes(t, api.Query{N: q.N[:7]}, nil, loadCols, "", "", loadCols, loadCols, loadCols, latCols)
	wantTypes(t, nodes(fetch("load"), cmp("nothing", 99, api.Value{Kind: 77}), api.Node{Kind: api.PHas}, of(api.POr, 1, 2), of(api.PNot, 3)), nil, loadCols, "", "", "", "")
}

// There are more ways down this condition than could be gone.
func TestP14_2WhereDoubling(t *testing.T) {
	for _, first := range []api.Node{cmp("n", api.Eq, intOf(1)), cmp("n", api.Eq, boolOf(1))} {
		l := []api.Node{fetch("load"), first}
		for len(l) < 3000 {
			l = append(l, of(api.PAnd+len(l)%2, len(l)-1, len(l)-1))
		}
		l = append(l, of(api.QWhere, 0, len(l)-1))
		l = append(l, of(api.QWhere, len(l)-1, len(l)-2))
		all, at, e := check.Types(schemas(), api.Query{N: l}, nil)
		if first.V.Kind == api.Int && (e != api.OK || at != 0 || !slices.Equal(all[3001], colsOf(loadCols))) {
			t.Errorf("%d, %d", at, e)
		} else if first.V.Kind == api.Bool && (e != api.ErrType || at != 3000 || all != nil) {
			t.Errorf("%d, %d", at, e)
		}
	}
}

func TestP14_2Keep(t *testing.T) {
	wantCols(t, "fetch load | keep n", "n:1")
	wantCols(t, "fetch load | keep up, time, zone, host, n", "up:3 time:1 zone:2 host:2 n:1")
	wantCols(t, "fetch lat | keep h, host", "h:4 host:2")
	for _, s := range []string{"keep x", "keep n, x", "keep x, n", "keep n, n", "keep n, up, n", "keep time, host, zone, n, up, n", "keep h", "keep n | keep host"} {
		wantLast(t, "fetch load | "+s, api.ErrType)
	}
	for _, names := range [][]string{nil, {}, {""}, {"n", ""}, {"N"}, slices.Repeat([]string{"n"}, 100000)} {
		wantTypesError(t, nodes(fetch("load"), api.Node{Kind: api.QKeep, L: []int{0}, Names: names}), nil, 1, api.ErrType)
	}
}

func TestP14_2Align(t *testing.T) {
	wantCols(t, "fetch load | align 1", loadCols)
	wantCols(t, "fetch lat | align 9223372036854775807 | align 3", latCols)
	wantCols(t, "fetch lat | keep h, time | align 5", "h:4 time:1")
	for _, s := range []string{"align 0", "align -1", "align -9223372036854775808", "keep n | align 5", "group time : count | keep count | align 5", "group : max time | align 5"} {
		wantLast(t, "fetch load | "+s, api.ErrType)
	}
	for kind := api.Int; kind <= api.Hist; kind++ {
		q := nodes(input(0), api.Node{Kind: api.QAlign, L: []int{0}, N: 5})
		inputs := [][]api.Col{{{Name: "n", Kind: api.Int}, {Name: "time", Kind: kind}}}
		if kind == api.Int {
			wantTypes(t, q, inputs, "n:1 time:1", "n:1 time:1")
		} else {
			wantTypesError(t, q, inputs, 1, api.ErrType)
		}
	}
}

func TestP14_2Group(t *testing.T) {
	wantCols(t, "fetch load | group : count", "count:1")
	wantCols(t, "fetch load | group zone, time, host : count", "zone:2 time:1 host:2 count:1")
	wantCols(t, "fetch load | group up, n : sum n, mean n, min n, max n", "up:3 n:1 sum_n:1 mean_n:1 min_n:1 max_n:1")
	wantCols(t, "fetch load | group n : min host, max host, min up, max up, min time, mean time", "n:1 min_host:2 max_host:2 min_up:3 max_up:3 min_time:1 mean_time:1")
	wantCols(t, "fetch lat | group host : merge h, count, sum time", "host:2 merge_h:4 count:1 sum_time:1")
	wantCols(t, "fetch load | group host : count | group count : max host", "count:1 max_host:2")
	wantCols(t, "fetch load | group host : sum n | group : sum sum_n", "sum_sum_n:1")
	for _, s := range []string{
		"group x : count", "group host, x : count", "group host, host : count", "group host, zone, host : count", "group h : count", "group : sum x", "group : min x", "group : max x", "group : mean x", "group : merge x",
		"group : sum host", "group : sum up", "group : mean host", "group : mean up", "group : merge n", "group : merge host", "group : merge up", "group : count, count", "group : sum n, count, sum n",
		"group host : count | group count : count", "group host : count, sum x", "group : count, max h", "group host : min n | group min_n : count, sum n",
	} {
		wantLast(t, "fetch load | "+s, api.ErrType)
	}
	for _, s := range []string{"group h : count", "group host, h : count", "group : sum h", "group : mean h", "group : min h", "group : max h", "group : merge host", "group : merge time", "group : merge h, merge h"} {
		wantLast(t, "fetch lat | "+s, api.ErrType)
	}
}

// wantGroup holds a QGroup of the load, or of the input, to columns; none: it may not be.
func wantGroup(t *testing.T, rows api.Node, inputs [][]api.Col, names []string, aggs []api.Agg, want []api.Col) {
	t.Helper()
	q := nodes(rows, api.Node{Kind: api.QGroup, L: []int{0}, Names: names, Aggs: aggs})
	all, at, e := check.Types(schemas(), q, inputs)
	if want == nil && (e != api.ErrType || at != 1 || len(all) != 0) {
		t.Errorf("the group %v : %v is %v, %d, %d", names, aggs, all, at, e)
	} else if want != nil && (e != api.OK || at != 0 || len(all) != 2 || !slices.Equal(all[1], want)) {
		t.Errorf("the group %v : %v is %v, %d, %d, not %v", names, aggs, all, at, e, want)
	}
}

func TestP14_2GroupOdd(t *testing.T) {
	count := []api.Agg{{Kind: api.Count}}
	wantGroup(t, fetch("load"), nil, nil, count, colsOf("count:1"))
	for _, aggs := range [][]api.Agg{
		nil, {}, {{Kind: api.Count, Col: "n"}}, {{Kind: api.Count, Col: "x"}}, {{Kind: api.Count}, {Kind: api.Count, Col: "n"}}, {{Kind: 0, Col: "n"}}, {{Kind: 7, Col: "n"}}, {{Kind: -1, Col: "n"}}, {{}},
		{{Kind: math.MinInt, Col: "n"}}, {{Kind: math.MaxInt, Col: "n"}}, {{Kind: api.Sum}}, {{Kind: api.Least}}, {{Kind: api.Sum, Col: "N"}}, slices.Repeat(count, 100000),
	} {
		wantGroup(t, fetch("load"), nil, nil, aggs, nil)
		wantGroup(t, fetch("load"), nil, []string{"host"}, aggs, nil)
	}
	wantGroup(t, fetch("load"), nil, []string{""}, count, nil)
	wantGroup(t, fetch("load"), nil, slices.Repeat([]string{"n"}, 100000), count, nil)
}

// The columns of a group must be a table's: at most 16, each with a name of at most 24 bytes, none twice.
func TestP14_2GroupTable(t *testing.T) {
	inputs := [][]api.Col{intCols("c", 16), colsOf("count:1 sum_a:1 a:1 p#0:1")}
	var names []string
	var sums []api.Agg
	var all []api.Col
	for _, c := range inputs[0] {
		names = append(names, c.Name)
		sums = append(sums, api.Agg{Kind: api.Sum, Col: c.Name})
		all = append(all, col("sum_"+c.Name, api.Int))
	}
	wantGroup(t, input(0), inputs, nil, sums, all)
	wantGroup(t, input(0), inputs, names[:1], sums, nil)
	wantGroup(t, input(0), inputs, names[:1], sums[1:], slices.Concat(inputs[0][:1], all[1:]))
	wantGroup(t, input(0), inputs, names[:15], sums[:1], slices.Concat(inputs[0][:15], all[:1]))
	wantGroup(t, input(0), inputs, names, sums[:1], nil)
	wantGroup(t, input(0), inputs, nil, append(slices.Clone(sums), api.Agg{Kind: api.Count}), nil)
	wantGroup(t, input(1), inputs, []string{"count"}, []api.Agg{{Kind: api.Count}}, nil)
	wantGroup(t, input(1), inputs, []string{"sum_a"}, []api.Agg{{Kind: api.Sum, Col: "a"}}, nil)
	wantGroup(t, input(1), inputs, []string{"sum_a"}, []api.Agg{{Kind: api.Mean, Col: "a"}}, colsOf("sum_a:1 mean_a:1"))
	wantGroup(t, input(1), inputs, []string{"p#0"}, []api.Agg{{Kind: api.Mean, Col: "p#0"}}, colsOf("p#0:1 mean_p#0:1"))
	wantCols(t, "fetch long | group : merge "+longestName[:18]+", sum "+longestName[:20]+", max "+longestName[:20], "merge_"+longestName[:18]+":4 sum_"+longestName[:20]+":1 max_"+longestName[:20]+":1")
	for _, s := range []string{"merge " + longestName[:19], "mean " + longestName[:20], "sum " + longestName[:21], "min " + longestName[:21], "count, max " + longestName[:21]} {
		wantLast(t, "fetch long | group : "+s, api.ErrType)
	}
}

func TestP14_2Top(t *testing.T) {
	for _, name := range []string{"time", "host", "n", "up"} {
		wantCols(t, "fetch load | top 1 by "+name, loadCols)
	}
	wantCols(t, "fetch lat | top 1000 by host", latCols)
	for _, s := range []string{"top 0 by n", "top -1 by n", "top 1001 by n", "top 9223372036854775807 by n", "top -9223372036854775808 by n", "top 1 by x", "top 1 by h", "keep host | top 1 by n"} {
		wantLast(t, "fetch load | "+s, api.ErrType)
	}
	wantLast(t, "fetch lat | top 1 by h", api.ErrType)
	wantTypesError(t, nodes(fetch("load"), api.Node{Kind: api.QTop, L: []int{0}, N: 1}), nil, 1, api.ErrType)
}

func TestP14_2Join(t *testing.T) {
	wantCols(t, "fetch load | join (fetch lat)", loadCols+" h:4")
	wantCols(t, "fetch lat | join (fetch load)", latCols+" zone:2 n:1 up:3")
	wantCols(t, "fetch load | join (fetch load)", loadCols)
	wantCols(t, "fetch load | keep up, host | join (fetch lat | keep h, host)", "up:3 host:2 h:4")
	wantCols(t, "fetch load | keep zone, n | join (fetch load | keep up, host, n)", "zone:2 n:1 up:3 host:2")
	for _, s := range []string{
		"fetch load | keep n | join (fetch lat)", "fetch load | keep n | join (fetch load | keep host)", "fetch lat | join (fetch lat)", "fetch lat | keep h | join (fetch lat | keep h)", "fetch load | join (fetch other)",
		"fetch load | keep host | join (fetch other | keep host)", "fetch other | keep n, time | join (fetch load | keep time, n)",
	} {
		wantLast(t, s, api.ErrType)
	}
}

// joinOf are two columns' lists, each an input.
func joinOf(a, b []api.Col) ([][]api.Col, api.Errno) {
	all, _, e := check.Types(nil, nodes(input(0), input(1), of(api.QJoin, 0, 1)), [][]api.Col{a, b})
	return all, e
}

func TestP14_2JoinKinds(t *testing.T) {
	for a := api.Int; a <= api.Hist; a++ {
		for b := api.Int; b <= api.Hist; b++ {
			all, e := joinOf([]api.Col{col("x", a), col("y", api.Hist)}, []api.Col{col("z", api.Hist), col("x", b)})
			want := []api.Col{col("x", a), col("y", api.Hist), col("z", api.Hist)}
			if a == b && a != api.Hist && (e != api.OK || !slices.Equal(all[2], want)) {
				t.Errorf("a join by the kinds %d and %d is %v, %d", a, b, all, e)
			} else if (a != b || a == api.Hist) && (e != api.ErrType || len(all) != 0) {
				t.Errorf("a join by the kinds %d and %d is %v, %d", a, b, all, e)
			}
		}
	}
}

func TestP14_2JoinMany(t *testing.T) {
	for n := 1; n <= 16; n++ {
		for m := 1; m <= 16; m++ {
			a, b := append(intCols("a", n-1), col("x", api.Str)), append(intCols("b", m-1), col("x", api.Str))
			all, e := joinOf(a, b)
			if n+m-1 <= 16 && (e != api.OK || !slices.Equal(all[2], slices.Concat(a, b[:m-1]))) {
				t.Errorf("a join of %d and %d columns is %v, %d", n, m, all, e)
			} else if n+m-1 > 16 && (e != api.ErrType || len(all) != 0) {
				t.Errorf("a join of %d and %d columns is %v, %d", n, m, all, e)
			}
		}
	}
	if all, e := joinOf(intCols("a", 16), intCols("a", 16)); e != api.OK || !slices.Equal(all[2], intCols("a", 16)) {
		t.Errorf("a join of the same columns is %v, %d", all, e)
	}
}

func TestP14_2Union(t *testing.T) {
	wantCols(t, "fetch load | union (fetch load | where up != true)", loadCols)
	wantCols(t, "fetch load | union (fetch alike)", loadCols)
	wantCols(t, "fetch lat | union (fetch lat)", latCols)
	wantCols(t, "fetch load | keep host, n | union (fetch load | keep host, n)", "host:2 n:1")
	for _, s := range []string{
		"fetch load | union (fetch lat)", "fetch load | keep host, n | union (fetch load | keep n, host)", "fetch load | keep host | union (fetch load | keep host, n)", "fetch load | keep host, n | union (fetch load | keep host)",
		"fetch load | keep host, n | union (fetch other | keep host, n)", "fetch load | keep host | union (fetch load | keep zone)", "fetch load | group : sum n | union (fetch load | keep n)",
	} {
		wantLast(t, s, api.ErrType)
	}
}

// The first node's error is told, with its number.
func TestP14_2FirstError(t *testing.T) {
	bad := []struct {
		n api.Node
		e api.Errno
	}{
		{of(99), api.ErrParse}, {fetch("x"), api.ErrSchema}, {input(5), api.ErrParse}, {of(api.QKeep, 0), api.ErrType}, {of(api.PNot, 0), api.ErrParse}, {of(api.QTop, 0), api.ErrType},
		{api.Node{Kind: api.QKeep, L: []int{1}, Names: []string{"x"}}, api.ErrParse}, {api.Node{Kind: api.QFetch, S: "x", L: []int{0}}, api.ErrParse},
	}
	for _, a := range bad {
		for _, b := range bad {
			wantTypesError(t, nodes(fetch("load"), a.n, b.n), nil, 1, a.e)
			wantTypesError(t, nodes(fetch("load"), fetch("lat"), fetch("lat"), a.n, fetch("lat"), b.n), nil, 3, errorBehind(a.n, a.e))
		}
	}
}

// errorBehind: behind a second fetch a node that names the node 1 names rows.
func errorBehind(n api.Node, e api.Errno) api.Errno {
	if n.Kind == api.QKeep {
		return api.ErrType
	}
	return e
}

func TestP14_3Cols(t *testing.T) {
	// What print.Check refuses, though Types does not, or tells another error.
	for k, q := range []api.Query{
		nodes(), nodes(input(0)), nodes(cmp("n", api.Eq, intOf(1))), nodes(fetch("load"), fetch("lat")), nodes(api.Node{Kind: api.QFetch, S: "load", N: 1}), nodes(fetch("load"), of(api.QUnion, 0, 0)),
		nodes(fetch("LOAD")), nodes(api.Node{Kind: api.QFetch, S: "nowhere", N: 1}), nodes(fetch("load"), of(api.QKeep, 0)), nodes(fetch("load"), api.Node{Kind: api.QTop, L: []int{0}}), nodes(of(0)),
	} {
		if cols, e := check.Cols(schemas(), q); e != api.ErrParse || len(cols) != 0 {
			t.Errorf("Cols of the query %d is %v, %d", k, cols, e)
		}
	}
	wantLast(t, "fetch nowhere", api.ErrSchema)
	wantError(t, "fetch load | keep x | join (fetch nowhere)", 1, api.ErrType)
	wantError(t, "fetch load | join (fetch nowhere) | keep x", 1, api.ErrSchema)
	wantCols(t, "fetch load | keep zone, n | group zone : max n | top 5 by max_n", "zone:2 max_n:1")
	if cols, e := check.Cols(nil, parsed(t, "fetch load")); e != api.ErrSchema || len(cols) != 0 {
		t.Errorf("Cols without schemas is %v, %d", cols, e)
	}
}

// givens are the inputs of made queries: some of them no table's columns.
func givens() [][]api.Col {
	return [][]api.Col{colsOf("host:2 p#0:1"), colsOf("time:2 host:2 h:4"), nil, intCols("c", 16), colsOf("host:2 host:2"), colsOf(fourKinds), colsOf(loadCols)}
}

func sameTypes(a, b [][]api.Col) bool { return slices.EqualFunc(a, b, slices.Equal[[]api.Col]) }

func wantAsRule(t *testing.T, l []api.Schema, q api.Query, inputs [][]api.Col) api.Errno {
	t.Helper()
	want, wantAt, wantE := ruleTypes(l, q, inputs)
	got, at, e := check.Types(l, q, inputs)
	if e != wantE || at != wantAt || !sameTypes(got, want) {
		t.Fatalf("Types(%+v) is %v, %d, %d, not %v, %d, %d", q, got, at, e, want, wantAt, wantE)
	}
	for _, cols := range got {
		if len(cols) > 0 && !mayBeTable(cols) {
			t.Fatalf("Types(%+v) has the columns %v", q, cols)
		}
	}
	wantColsAsRule(t, l, q)
	return e
}

func wantColsAsRule(t *testing.T, l []api.Schema, q api.Query) {
	t.Helper()
	wantE := print.Check(q)
	var want []api.Col
	if wantE == api.OK {
		var all [][]api.Col
		if all, _, wantE = ruleTypes(l, q, nil); wantE == api.OK {
			want = all[len(all)-1]
		}
	}
	if got, e := check.Cols(l, q); e != wantE || !slices.Equal(got, want) {
		t.Fatalf("Cols(%+v) is %v, %d, not %v, %d", q, got, e, want, wantE)
	}
}

// Made nodes, and spoilt ones, are as the rule has them, and all columns may be a table's.
func TestP14_4Made(t *testing.T) {
	if schema.Check(schemas()) != api.OK {
		t.Fatal("the schemas may not be")
	}
	r := rand.New(rand.NewSource(14))
	told := map[api.Errno]int{}
	for range 6000 {
		q := made(r, schemas(), givens(), 1+r.Intn(24))
		if len(q.N) == 0 {
			continue
		}
		told[wantAsRule(t, schemas(), q, givens())]++
		for range 4 {
			bad := clone(q)
			spoil(r, bad)
			told[wantAsRule(t, schemas(), bad, givens())]++
		}
	}
	for _, e := range []api.Errno{api.OK, api.ErrParse, api.ErrSchema, api.ErrType} {
		if told[e] < 500 {
			t.Errorf("of the made queries only %d tell %d", told[e], e)
		}
	}
}

// Texts are made of pieces, so that Cols answers columns too.
func TestP14_4Texts(t *testing.T) {
	steps := []string{
		"where n > 5", `where host has "a" and not up = true`, "where time < 9 or zone = \"x\"", "keep host, n", "keep time, host, n", "keep h, host, time", "align 10", "group host : count, sum n", "group time, host : merge h", "group : max n, min host",
		"group host : mean n", "top 3 by n", "top 5 by host", "top 1 by count", "join (fetch lat)", "join (fetch load | keep host, zone)", "join (fetch wide)", "union (fetch load)", "union (fetch load | keep host, n)", "union (fetch lat)", "keep count", "where sum_n = 1",
	}
	r := rand.New(rand.NewSource(41))
	good := 0
	for range 20000 {
		s := "fetch " + []string{"load", "lat", "wide", "alike"}[r.Intn(4)]
		for range r.Intn(5) {
			s += " | " + steps[r.Intn(len(steps))]
		}
		if wantAsRule(t, schemas(), parsed(t, s), nil) == api.OK {
			good++
		}
	}
	if good < 2000 {
		t.Errorf("only %d texts have columns", good)
	}
}

// As many nodes as a rewritten query may have, and more.
func TestP14_2Long(t *testing.T) {
	q := nodes(fetch("load"))
	for len(q.N) < 60000 {
		i := len(q.N)
		q.N = append(q.N, cmp("n", api.Gt, intOf(i)), of(api.PNot, i), of(api.QWhere, i-1, i+1))
	}
	all, at, e := check.Types(schemas(), q, nil)
	if e != api.OK || at != 0 || len(all) != len(q.N) || !slices.Equal(all[len(all)-1], colsOf(loadCols)) {
		t.Errorf("%d, %d, %d", len(all), at, e)
	}
	q = nodes(fetch("load"), cmp("n", api.Gt, intOf(1)))
	for len(q.N) < 60000 {
		q.N = append(q.N, of(api.PNot, len(q.N)-1))
	}
	q.N = append(q.N, of(api.QWhere, 0, len(q.N)-1))
	if all, at, e := check.Types(schemas(), q, nil); e != api.OK || at != 0 || len(all) != 60001 {
		t.Errorf("%d, %d, %d", len(all), at, e)
	}
}

func withRoom[E any](list []E, spare E) []E {
	out := append(slices.Clip(slices.Clone(list)), spare, spare)
	return out[:len(list)]
}

// roomySchemas, roomyQuery and roomyInputs are copies with spare room behind each list's end, and something in it.
func roomySchemas() []api.Schema {
	var out []api.Schema
	for _, s := range schemas() {
		out = append(out, api.Schema{Name: s.Name, Keys: withRoom(s.Keys, col("spare", 77)), Vals: withRoom(s.Vals, col("spare", 77))})
	}
	return withRoom(out, api.Schema{Name: "spare"})
}

func roomyQuery(q api.Query) api.Query {
	q = clone(q)
	for i, n := range q.N {
		q.N[i].L, q.N[i].Names, q.N[i].Aggs = withRoom(n.L, 77), withRoom(n.Names, "spare"), withRoom(n.Aggs, api.Agg{Kind: 77})
	}
	return api.Query{N: withRoom(q.N, api.Node{Kind: 77})}
}

func roomyInputs(l [][]api.Col) [][]api.Col {
	var out [][]api.Col
	for _, cols := range l {
		out = append(out, withRoom(cols, col("spare", 77)))
	}
	return withRoom(out, colsOf("spare:1"))
}

// whole is a copy of a list and all of its spare room.
func whole[E any](l []E) []E { return slices.Clone(l[:cap(l)]) }

func wholeOf(l []api.Schema, q api.Query, inputs [][]api.Col) []any {
	out := []any{whole(l), whole(q.N), whole(inputs)}
	for _, s := range l {
		out = append(out, whole(s.Keys), whole(s.Vals))
	}
	for _, n := range q.N {
		out = append(out, whole(n.L), whole(n.Names), whole(n.Aggs))
	}
	for _, cols := range inputs {
		out = append(out, whole(cols))
	}
	return out
}

// everyStep has a node of each kind of rows.
func everyStep() api.Query {
	return nodes(fetch("load"), cmp("n", api.Gt, intOf(5)), hasText("host", "a"), of(api.POr, 1, 2), of(api.QWhere, 0, 3), of(api.QUnion, 4, 0), api.Node{Kind: api.QAlign, L: []int{5}, N: 10}, api.Node{Kind: api.QTop, L: []int{6}, N: 3, S: "n"},
		input(0), of(api.QJoin, 7, 8), of(api.QJoin, 9, 7), api.Node{Kind: api.QKeep, L: []int{10}, Names: []string{"host", "n", "time"}}, api.Node{Kind: api.QGroup, L: []int{11}, Names: []string{"host"}, Aggs: []api.Agg{{Kind: api.Sum, Col: "n"}}}, input(0), fetch("load"))
}

// R7: what is handed in stays as it was, with the room behind each list.
func TestArgumentsStay(t *testing.T) {
	l, q, inputs := roomySchemas(), roomyQuery(everyStep()), roomyInputs([][]api.Col{colsOf("host:2 m:1")})
	before := wholeOf(l, q, inputs)
	if _, at, e := check.Types(l, q, inputs); e != api.OK {
		t.Fatal(at, e)
	}
	text := roomyQuery(parsed(t, "fetch load | where n > 5 | join (fetch lat) | group host : sum n"))
	textBefore := wholeOf(nil, text, nil)
	if _, e := check.Cols(l, text); e != api.OK {
		t.Fatal(e)
	}
	if !reflect.DeepEqual(before, wholeOf(l, q, inputs)) || !reflect.DeepEqual(textBefore, wholeOf(nil, text, nil)) {
		t.Error("an argument was changed")
	}
}

// R7: each list of an answer is the caller's own: what is done to one is seen nowhere else.
func TestAnswersAreOwn(t *testing.T) {
	l, q, inputs := schemas(), everyStep(), [][]api.Col{colsOf("host:2 m:1")}
	want, _, _ := check.Types(l, q, inputs)
	for i := range want {
		got, _, _ := check.Types(l, q, inputs)
		for k := range got[i] {
			got[i][k] = col("changed", 77)
		}
		room := got[i][:cap(got[i])]
		for k := range room {
			room[k] = col("changed", 77)
		}
		for k := range got {
			if k != i && !slices.Equal(got[k], want[k]) {
				t.Fatalf("the columns of the nodes %d and %d are one list", i, k)
			}
		}
		if !reflect.DeepEqual(l, schemas()) || !reflect.DeepEqual(inputs, [][]api.Col{colsOf("host:2 m:1")}) {
			t.Fatalf("the columns of the node %d are an argument's", i)
		}
	}
	cols, _ := check.Cols(l, parsed(t, "fetch load"))
	for k := range cols {
		cols[k] = col("changed", 77)
	}
	if !reflect.DeepEqual(l, schemas()) {
		t.Error("the columns that Cols answers are the schema's")
	}
}

// R6: what is answered hangs on the arguments alone.
func TestTheSameAgain(t *testing.T) {
	first, _, e := check.Types(schemas(), everyStep(), [][]api.Col{colsOf("host:2 m:1")})
	check.Types(nil, nodes(of(0)), nil)
	second, _, f := check.Types(schemas(), everyStep(), [][]api.Col{colsOf("host:2 m:1")})
	if e != api.OK || f != api.OK || !reflect.DeepEqual(first, second) {
		t.Errorf("%v, %d, then %v, %d", first, e, second, f)
	}
}
