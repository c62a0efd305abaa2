package eval_test

import (
	"math"
	"slices"
	"strconv"
	"strings"
	"testing"

	"catchment/api"
	"catchment/eval"
	"catchment/parse"
	"catchment/table"
)

func col(name string, kind int) api.Col { return api.Col{Name: name, Kind: kind} }

// colsOf reads columns as the chapter of check has them: n (Int) is n:1.
func colsOf(s string) []api.Col {
	var l []api.Col
	for _, part := range strings.Fields(s) {
		name, kind, _ := strings.Cut(part, ":")
		n, err := strconv.Atoi(kind)
		if err != nil {
			panic(s)
		}
		l = append(l, col(name, n))
	}
	return l
}

// numbered are so many Int columns: c0, c1, ..
func numbered(many int) []api.Col {
	var l []api.Col
	for k := range many {
		l = append(l, col("c"+strconv.Itoa(k), api.Int))
	}
	return l
}

func intOf(n int) api.Value { return api.Value{Kind: api.Int, N: n} }

func strOf(s string) api.Value { return api.Value{Kind: api.Str, S: s} }

func boolOf(n int) api.Value { return api.Value{Kind: api.Bool, N: n} }

func histOf(h ...int) api.Value {
	v := api.Value{Kind: api.Hist}
	copy(v.H[:], h)
	return v
}

func of(cols []api.Col, rows ...[]api.Value) api.Table { return api.Table{Cols: cols, Rows: rows} }

// ints is a table of Int columns, row by row.
func ints(names string, l ...int) api.Table {
	var t api.Table
	for _, name := range strings.Fields(names) {
		t.Cols = append(t.Cols, col(name, api.Int))
	}
	for rest := range slices.Chunk(l, len(t.Cols)) {
		var row []api.Value
		for _, n := range rest {
			row = append(row, intOf(n))
		}
		t.Rows = append(t.Rows, row)
	}
	return t
}

const (
	loadCols = "time:1 host:2 zone:2 n:1 up:3"
	latCols  = "time:1 host:2 h:4"
)

func schemas() []api.Schema {
	return []api.Schema{
		{Name: "load", Keys: colsOf("host:2 zone:2"), Vals: colsOf("n:1 up:3")},
		{Name: "lat", Keys: colsOf("host:2"), Vals: colsOf("h:4")},
		{Name: "wide", Keys: colsOf("ka:1 kb:1 kc:1 kd:1"), Vals: colsOf("va:1 vb:1 vc:1 vd:1")},
	}
}

func load(time int, host string, n int) []api.Value {
	return []api.Value{intOf(time), strOf(host), strOf("x"), intOf(n), boolOf(1)}
}

func lat(time int, host string, h ...int) []api.Value {
	return []api.Value{intOf(time), strOf(host), histOf(h...)}
}

func loads(rows ...[]api.Value) api.Named {
	return api.Named{Name: "load", T: of(colsOf(loadCols), rows...)}
}

func lats(rows ...[]api.Value) api.Named {
	return api.Named{Name: "lat", T: of(colsOf(latCols), rows...)}
}

// some are tables whose rows stand in no order, load's in two of them.
func some() []api.Named {
	return []api.Named{
		loads(load(12, "c", 5), load(2, "b", 7)),
		lats(lat(3, "b", 2), lat(1, "a", 1), lat(2, "b", 3)),
		loads(load(1, "a", 5), load(5, "b", 6)),
	}
}

func parsed(t *testing.T, s string) api.Query {
	t.Helper()
	q, at, e := parse.Query(s)
	if e != api.OK {
		t.Fatalf("Query(%q): %d at %d", s, e, at)
	}
	return q
}

func nodes(l ...api.Node) api.Query { return api.Query{N: l} }

func fetch(s string) api.Node { return api.Node{Kind: api.QFetch, S: s, To: api.MaxTime - 1} }

func input(n int) api.Node { return api.Node{Kind: api.QInput, N: n} }

func hasText(s, text string) api.Node {
	return api.Node{Kind: api.PHas, S: s, V: strOf(text)}
}

func step(kind int, l ...int) api.Node { return api.Node{Kind: kind, L: l} }

func keep(below int, names ...string) api.Node {
	return api.Node{Kind: api.QKeep, L: []int{below}, Names: names}
}

func grouped(below int, names []string, aggs ...api.Agg) api.Node {
	return api.Node{Kind: api.QGroup, L: []int{below}, Names: names, Aggs: aggs}
}

// means are a mean of each column.
func means(cols []api.Col) []api.Agg {
	var l []api.Agg
	for _, c := range cols {
		l = append(l, api.Agg{Kind: api.Mean, Col: c.Name})
	}
	return l
}

// answer is what a call answers, as one thing.
type answer struct {
	t api.Table
	e api.Errno
}

func said(t api.Table, e api.Errno) answer { return answer{t, e} }

func same(a, b answer) bool { return a.e == b.e && table.Same(a.t, b.t) }

func wantTable(t *testing.T, what string, got answer, want api.Table) {
	t.Helper()
	if got.e != api.OK || !table.Same(got.t, want) {
		t.Errorf("%s is %v, want %v", what, got, want)
	}
}

// wantError asks for nothing beside the error, too.
func wantError(t *testing.T, what string, got answer, want api.Errno) {
	t.Helper()
	if got.e != want || got.t.Cols != nil || got.t.Rows != nil {
		t.Errorf("%s is %v, want the error %d alone", what, got, want)
	}
}

// wantOf is a query of some that has this table.
func wantOf(t *testing.T, s string, want api.Table) {
	t.Helper()
	wantTable(t, s, said(eval.Run(schemas(), parsed(t, s), some(), nil, 9)), want)
}

func wantNodes(t *testing.T, what string, q api.Query, inputs []api.Table, want api.Table) {
	t.Helper()
	wantTable(t, what, said(eval.Run(schemas(), q, some(), inputs, 9)), want)
}

func TestExamples(t *testing.T) {
	db := []api.Named{loads(load(1, "a", 5), load(2, "b", 7))}
	q := parsed(t, "fetch load | where n > 5 | keep host")
	wantTable(t, "a where", said(eval.Run(schemas(), q, db, nil, 9)), of(colsOf("host:2"), []api.Value{strOf("b")}))
	q = parsed(t, "fetch load | group zone : sum n")
	wantTable(t, "a group", said(eval.Run(schemas(), q, db, nil, 9)), of(colsOf("zone:2 sum_n:1"), []api.Value{strOf("x"), intOf(12)}))
	wantError(t, "the same with most 1", said(eval.Run(schemas(), q, db, nil, 1)), api.ErrBudget)
}

func TestP19_1Fetch(t *testing.T) {
	all := of(colsOf(loadCols), load(1, "a", 5), load(2, "b", 7), load(5, "b", 6), load(12, "c", 5))
	wantOf(t, "fetch load", all)
	wantOf(t, "fetch lat", of(colsOf(latCols), lat(1, "a", 1), lat(2, "b", 3), lat(3, "b", 2)))
	wantOf(t, "fetch wide", of(colsOf("time:1 ka:1 kb:1 kc:1 kd:1 va:1 vb:1 vc:1 vd:1")))
	// The same row as often as it is there, in one table or in two.
	db := []api.Named{lats(lat(1, "a", 1), lat(1, "a", 1)), lats(lat(0, "a", 1), lat(1, "a", 1)), lats()}
	got := said(eval.Run(schemas(), parsed(t, "fetch lat"), db, nil, 9))
	wantTable(t, "of the same rows", got, of(colsOf(latCols), lat(0, "a", 1), lat(1, "a", 1), lat(1, "a", 1), lat(1, "a", 1)))
	// Of two schemas of a name the first one.
	l := append([]api.Schema{{Name: "lat", Keys: colsOf("k:1"), Vals: colsOf("v:3")}}, schemas()...)
	got = said(eval.Run(l, parsed(t, "fetch lat"), nil, nil, 9))
	wantTable(t, "of a name that is there twice", got, of(colsOf("time:1 k:1 v:3")))
}

func TestP19_1FetchTimes(t *testing.T) {
	for _, c := range []struct {
		from, to int
		want     []int
	}{
		{1, 12, []int{1, 2, 5, 12}}, {2, 11, []int{2, 5}}, {2, 5, []int{2, 5}}, {3, 4, nil}, {5, 5, []int{5}}, {12, 12, []int{12}}, {13, math.MaxInt, nil}, {math.MinInt, 0, nil},
		{math.MinInt, math.MaxInt, []int{1, 2, 5, 12}}, {12, 1, nil}, {0, 0, nil}, {math.MaxInt, math.MinInt, nil}, {-5, 1, []int{1}},
	} {
		q := nodes(api.Node{Kind: api.QFetch, S: "load", From: c.from, To: c.to}, keep(0, "time"))
		wantNodes(t, "a fetch from "+strconv.Itoa(c.from)+" to "+strconv.Itoa(c.to), q, nil, ints("time", c.want...))
	}
	// Times that no point has: a table may have them.
	cols := colsOf(latCols)
	db := []api.Named{{Name: "lat", T: of(cols, lat(math.MaxInt, "a"), lat(math.MinInt, "a"), lat(-1, "a"), lat(api.MaxTime, "a"))}}
	for _, c := range []struct{ from, to, want int }{
		{math.MinInt, math.MaxInt, 4}, {math.MinInt, math.MinInt, 1}, {math.MaxInt, math.MaxInt, 1}, {0, api.MaxTime - 1, 0}, {-1, api.MaxTime, 2}, {math.MinInt + 1, math.MaxInt - 1, 2},
	} {
		q := nodes(api.Node{Kind: api.QFetch, S: "lat", From: c.from, To: c.to})
		if got, e := eval.Run(schemas(), q, db, nil, 9); e != api.OK || len(got.Rows) != c.want {
			t.Errorf("from %d to %d: %v, %d; want %d rows", c.from, c.to, got, e, c.want)
		}
	}
}

// The time is the column of that name; one behind it counts for nothing.
func TestP19_1FetchGoesByTime(t *testing.T) {
	l := []api.Schema{{Name: "s", Keys: colsOf("at:1"), Vals: colsOf("n:1")}}
	db := []api.Named{{Name: "s", T: ints("time at n", 1, 9, 9, 9, 1, 1, 2, 9, 9)}}
	q := nodes(api.Node{Kind: api.QFetch, S: "s", From: 1, To: 2})
	wantTable(t, "a fetch", said(eval.Run(l, q, db, nil, 9)), ints("time at n", 1, 9, 9, 2, 9, 9))
}

func TestP19_1Input(t *testing.T) {
	one, two := ints("k n", 2, 1, 1, 5, 1, 4, 1, 5), of(colsOf("h:4"), []api.Value{histOf(2)}, []api.Value{histOf(1)})
	inputs := []api.Table{one, two, ints("x")}
	wantNodes(t, "the first input", nodes(input(0)), inputs, ints("k n", 1, 4, 1, 5, 1, 5, 2, 1))
	wantNodes(t, "the second input", nodes(input(1)), inputs, of(colsOf("h:4"), []api.Value{histOf(1)}, []api.Value{histOf(2)}))
	wantNodes(t, "the third input", nodes(input(2)), inputs, ints("x"))
	wantNodes(t, "an input twice", nodes(input(0), input(0), step(api.QUnion, 0, 1)), inputs, ints("k n", 1, 4, 1, 4, 1, 5, 1, 5, 1, 5, 1, 5, 2, 1, 2, 1))
	for _, n := range []int{-1, 3, math.MinInt, math.MaxInt} {
		wantError(t, "input "+strconv.Itoa(n), said(eval.Run(schemas(), nodes(input(n)), some(), inputs, 9)), api.ErrParse)
	}
	wantError(t, "no input", said(eval.Run(schemas(), nodes(input(0)), some(), nil, 9)), api.ErrParse)
	// Without schemas, too.
	wantTable(t, "an input alone", said(eval.Run(nil, nodes(input(1)), nil, []api.Table{two, one}, 9)), ints("k n", 1, 4, 1, 5, 1, 5, 2, 1))
}

func TestP19_1Steps(t *testing.T) {
	wantOf(t, "fetch load | where n = 5 or host = \"b\" and not n < 7", of(colsOf(loadCols), load(1, "a", 5), load(2, "b", 7), load(12, "c", 5)))
	wantOf(t, "fetch load | where n > 9", of(colsOf(loadCols)))
	wantOf(t, "fetch load | keep n, time", ints("n time", 5, 1, 5, 12, 6, 5, 7, 2))
	wantOf(t, "fetch load | align 10 | keep time, n", ints("time n", 0, 5, 0, 6, 0, 7, 10, 5))
	wantOf(t, "fetch load | group n : count, max time", ints("n count max_time", 5, 2, 12, 6, 1, 5, 7, 1, 2))
	wantOf(t, "fetch load | group : mean n", ints("mean_n", 5))
	wantOf(t, "fetch load | where n > 9 | group : mean n", ints("mean_n"))
	wantOf(t, "fetch load | top 2 by n | keep n, time", ints("n time", 6, 5, 7, 2))
	wantOf(t, "fetch load | top 2 by time", of(colsOf(loadCols), load(5, "b", 6), load(12, "c", 5)))
	wantOf(t, "fetch load | keep host, n | join (fetch lat | keep host, time)", of(colsOf("host:2 n:1 time:1"),
		[]api.Value{strOf("a"), intOf(5), intOf(1)}, []api.Value{strOf("b"), intOf(6), intOf(2)}, []api.Value{strOf("b"), intOf(6), intOf(3)},
		[]api.Value{strOf("b"), intOf(7), intOf(2)}, []api.Value{strOf("b"), intOf(7), intOf(3)}))
	wantOf(t, "fetch load | keep time | union (fetch lat | keep time)", ints("time", 1, 1, 2, 2, 3, 5, 12))
	wantOf(t, "fetch lat | group host : merge h, count", of(colsOf("host:2 merge_h:4 count:1"),
		[]api.Value{strOf("a"), histOf(1), intOf(1)}, []api.Value{strOf("b"), histOf(5), intOf(2)}))
	wantOf(t, "fetch load from 2 to 5 | where host has \"b\" | keep n | union (fetch load from 1 to 1 | keep n) | top 2 by n | group : sum n", ints("sum_n", 13))
}

// Which side is which is as the node says, whichever stands ahead; and a node may be named by many.
func TestP19_1NamedNodes(t *testing.T) {
	inputs := []api.Table{ints("k n", 1, 5, 2, 6), ints("k m", 1, 7, 3, 8)}
	wantNodes(t, "a join", nodes(input(0), input(1), step(api.QJoin, 0, 1)), inputs, ints("k n m", 1, 5, 7))
	wantNodes(t, "the join of changed sides", nodes(input(0), input(1), step(api.QJoin, 1, 0)), inputs, ints("k m n", 1, 7, 5))
	wantNodes(t, "a join with itself", nodes(input(0), step(api.QJoin, 0, 0)), inputs, ints("k n", 1, 5, 2, 6))
	wantNodes(t, "a union with itself", nodes(input(1), step(api.QUnion, 0, 0)), inputs, ints("k m", 1, 7, 1, 7, 3, 8, 3, 8))
	wantNodes(t, "a step of one far ahead", nodes(input(0), input(1), keep(1, "m"), keep(0, "n")), inputs, ints("n", 5, 6))
	wantNodes(t, "a node named twice", nodes(input(0), keep(0, "n"), keep(0, "k"), api.Node{Kind: api.QTop, L: []int{1}, N: 1, S: "n"}), inputs, ints("n", 6))
	// One condition for two of rows, and conditions that none names.
	cond := api.Node{Kind: api.PCmp, S: "k", N: api.Eq, V: intOf(1)}
	q := nodes(cond, step(api.PNot, 0), input(0), step(api.QWhere, 2, 0), input(1), step(api.QWhere, 4, 0), step(api.QJoin, 3, 5))
	wantNodes(t, "a condition named twice", q, inputs, ints("k n m", 1, 5, 7))
	q = nodes(cond, step(api.PNot, 0), input(0), step(api.QWhere, 2, 1))
	wantNodes(t, "a condition ahead of the rows", q, inputs, ints("k n", 2, 6))
}

// db is all held to its schemas, whether or not it is asked for.
func TestP19_1ErrArgOfDb(t *testing.T) {
	row := lat(1, "a")
	for what, bad := range map[string]api.Named{
		"a table of no schema's name":   {Name: "x", T: of(colsOf(latCols))},
		"a table of no name":            {T: of(colsOf(latCols))},
		"a table of times alone":        {Name: "x", T: of(colsOf("time:1"))},
		"a table of another's name":     {Name: "load", T: of(colsOf(latCols))},
		"a table without columns":       {Name: "lat"},
		"a column too few":              {Name: "lat", T: of(colsOf("time:1 host:2"))},
		"a column too many":             {Name: "lat", T: of(colsOf(latCols + " n:1"))},
		"columns in another order":      {Name: "lat", T: of(colsOf("host:2 time:1 h:4"))},
		"a column of another kind":      {Name: "lat", T: of(colsOf("time:1 host:2 h:1"))},
		"a column of another name":      {Name: "lat", T: of(colsOf("time:1 host:2 g:4"))},
		"a row that is too short":       {Name: "lat", T: of(colsOf(latCols), row, row[:2])},
		"a row that is too long":        {Name: "lat", T: of(colsOf(latCols), append(lat(1, "a"), intOf(1)))},
		"a row without values":          {Name: "lat", T: of(colsOf(latCols), row, nil)},
		"a value of another kind":       {Name: "lat", T: of(colsOf(latCols), []api.Value{strOf("a"), strOf("a"), histOf()})},
		"a value that may not be":       {Name: "lat", T: of(colsOf(latCols), lat(1, strings.Repeat("a", 65)))},
		"a value with more than it has": {Name: "lat", T: of(colsOf(latCols), []api.Value{{Kind: api.Int, S: "a"}, strOf("a"), histOf()})},
	} {
		for k := range 3 {
			for _, s := range []string{"fetch load", "fetch lat", "fetch x", "fetch load | keep x", "fetch load | keep h"} {
				wantError(t, what, said(eval.Run(schemas(), parsed(t, s), slices.Insert(some(), k, bad), nil, 9)), api.ErrArg)
			}
			wantError(t, what, said(eval.Run(schemas(), api.Query{}, slices.Insert(some(), k, bad), nil, 9)), api.ErrArg)
			wantError(t, what, said(eval.Run(schemas(), parsed(t, "fetch load"), slices.Insert(some(), k, bad), nil, 0)), api.ErrArg)
		}
	}
	wantError(t, "tables without schemas", said(eval.Run(nil, nodes(input(0)), some(), []api.Table{ints("n")}, 9)), api.ErrArg)
	wantError(t, "a table of the second schema of a name", said(eval.Run(append([]api.Schema{{Name: "lat"}}, schemas()...), parsed(t, "fetch load"), some(), nil, 9)), api.ErrArg)
	// A schema whose columns no table may have, and a table that has just these.
	odd := []api.Schema{{Name: "s", Keys: colsOf("k:1 k:1")}}
	wantError(t, "a table of a schema that may not be", said(eval.Run(odd, nodes(fetch("s")), []api.Named{{Name: "s", T: ints("time k k")}}, nil, 9)), api.ErrArg)
}

func TestP19_1ErrArgOfInputs(t *testing.T) {
	for what, bad := range map[string]api.Table{
		"no columns":                      {},
		"a name twice":                    ints("k k"),
		"a name that is none":             ints("K"),
		"a kind that is none":             of(colsOf("k:5")),
		"too many columns":                of(numbered(17)),
		"a row that does not fit":         of(colsOf("k:1"), []api.Value{strOf("a")}),
		"a row of too many values":        of(colsOf("k:1"), []api.Value{intOf(1), intOf(2)}),
		"a value that may not be":         of(colsOf("k:3"), []api.Value{boolOf(2)}),
		"a row that is wrong behind one":  of(colsOf("k:1"), []api.Value{intOf(1)}, nil),
		"a row of a table with no column": of(nil, nil),
	} {
		for _, l := range [][]api.Table{{bad}, {ints("k"), bad}, {bad, ints("k")}} {
			for _, q := range []api.Query{parsed(t, "fetch load"), nodes(input(0)), nodes(input(1)), nodes(input(9)), parsed(t, "fetch x"), {}, nodes(hasText("host", "a"))} {
				wantError(t, what, said(eval.Run(schemas(), q, some(), l, 9)), api.ErrArg)
				wantError(t, what, said(eval.Run(schemas(), q, some(), l, -1)), api.ErrArg)
			}
		}
	}
	wantNodes(t, "as many columns as may be", nodes(input(0)), []api.Table{of(numbered(16))}, of(numbered(16)))
}

// The error of check.Types, told ahead of all that the rows bring about.
func TestP19_1ErrOfTypes(t *testing.T) {
	for s, want := range map[string]api.Errno{
		"fetch x": api.ErrSchema, "fetch load | join (fetch x)": api.ErrSchema, "fetch load | keep x": api.ErrType, "fetch load | where h = 1": api.ErrType,
		"fetch lat | where h = 1": api.ErrType, "fetch load | align 0": api.ErrType, "fetch load | keep n | align 5": api.ErrType, "fetch load | group : sum host": api.ErrType,
		"fetch load | group h : count": api.ErrType, "fetch load | top 0 by n": api.ErrType, "fetch load | top 1001 by n": api.ErrType, "fetch lat | top 1 by h": api.ErrType,
		"fetch load | keep n | join (fetch lat)": api.ErrType, "fetch load | union (fetch lat)": api.ErrType, "fetch lat | join (fetch lat)": api.ErrType,
		"fetch load | keep x | join (fetch x)": api.ErrType, "fetch load | join (fetch x) | keep x": api.ErrSchema,
	} {
		for _, most := range []int{9, 0, -1} {
			wantError(t, s, said(eval.Run(schemas(), parsed(t, s), some(), nil, most)), want)
		}
	}
	for what, q := range map[string]api.Query{
		"a kind that is none": nodes(fetch("load"), step(10, 0)), "no kind": nodes(api.Node{}), "a node that names itself": nodes(fetch("load"), step(api.QUnion, 0, 1)),
		"a node that names one behind": nodes(keep(1, "n"), fetch("load")), "a fetch that names one": nodes(fetch("load"), api.Node{Kind: api.QFetch, S: "load", L: []int{0}}),
		"a step that names none": nodes(fetch("load"), step(api.QUnion)), "rows where a condition is meant": nodes(fetch("load"), step(api.QWhere, 0, 0)),
		"a condition where rows are meant": nodes(hasText("host", "a"), keep(0, "n")), "below 0": nodes(fetch("load"), step(api.QUnion, 0, -1)),
		"above all kinds": nodes(fetch("load"), step(16, 0)), "a far kind": nodes(fetch("load"), step(math.MaxInt, 0)),
	} {
		for _, most := range []int{9, 0, -1} {
			wantError(t, what, said(eval.Run(schemas(), q, some(), nil, most)), api.ErrParse)
		}
	}
	// Of two errors the first node's, also where the last node is none.
	wantError(t, "two errors", said(eval.Run(schemas(), nodes(fetch("x"), step(10)), some(), nil, 9)), api.ErrSchema)
	wantError(t, "two errors", said(eval.Run(schemas(), nodes(step(10), fetch("x")), some(), nil, 9)), api.ErrParse)
	wantError(t, "an error ahead of a condition", said(eval.Run(schemas(), nodes(fetch("x"), hasText("host", "a")), some(), nil, 9)), api.ErrSchema)
	// The inputs' columns are those of these tables.
	inputs := []api.Table{ints("k n"), ints("m")}
	wantNodes(t, "an input's column", nodes(input(0), keep(0, "n")), inputs, ints("n"))
	wantError(t, "another input's column", said(eval.Run(schemas(), nodes(input(0), keep(0, "m")), some(), inputs, 9)), api.ErrType)
}

func TestP19_1ErrParse(t *testing.T) {
	cond := hasText("host", "b")
	for what, q := range map[string]api.Query{
		"no nodes": {}, "an empty list": nodes([]api.Node{}...), "a condition": nodes(cond), "a condition behind rows": nodes(fetch("load"), cond),
		"a condition behind a where": nodes(fetch("load"), cond, step(api.QWhere, 0, 1), step(api.PNot, 1)), "both": nodes(cond, step(api.PAnd, 0, 0)), "either": nodes(cond, step(api.POr, 0, 0)),
		"a comparison": nodes(fetch("load"), api.Node{Kind: api.PCmp, S: "n", N: api.Eq, V: intOf(1)}),
	} {
		// Ahead of a budget that is too small.
		for _, most := range []int{9, 0, -1} {
			wantError(t, what, said(eval.Run(schemas(), q, some(), nil, most)), api.ErrParse)
		}
	}
}
