package eval_test

import (
	"math"
	"slices"
	"testing"

	"catchment/api"
	"catchment/check"
	"catchment/eval"
	"catchment/table"
)

func TestByTheRule(t *testing.T) {
	told, rows := map[api.Errno]int{}, 0
	kinds := map[int]int{}
	for seed := range 30000 {
		m := makerOf(seed, seed%2 == 0)
		q, db, most := m.query(), m.db(), m.most()
		got, want := said(eval.Run(m.schemas, q, db, m.inputs, most)), said(ruleRun(m.schemas, q, db, m.inputs, most))
		if !same(got, want) {
			t.Fatalf("seed %d: Run(%v, %v, %v, %v, %d) is %v, want %v", seed, m.schemas, q, db, m.inputs, most, got, want)
		}
		if got.e != api.OK && (got.t.Cols != nil || got.t.Rows != nil) {
			t.Fatalf("seed %d: beside the error %d stands %v", seed, got.e, got.t)
		}
		told[got.e]++
		rows += len(got.t.Rows)
		if len(got.t.Rows) > 0 {
			kinds[q.N[len(q.N)-1].Kind]++
		}
	}
	if min(told[api.OK], told[api.ErrArg], told[api.ErrBudget], told[api.ErrParse]) < 1000 || min(told[api.ErrType], told[api.ErrSchema]) < 50 || rows < 20000 {
		t.Errorf("told are %v, and %d rows", told, rows)
	}
	for kind := range 9 {
		if kinds[kind+1] < 200 {
			t.Errorf("the kind %d is the last one with rows %d times", kind+1, kinds[kind+1])
		}
	}
}

// answered puts whatever Run answers without an error to a test.
func answered(t *testing.T, test func(seed int, m *maker, db []api.Named, got api.Table)) {
	t.Helper()
	rows := 0
	for seed := range 8000 {
		m := makerOf(seed, false)
		db := m.db()
		if got, e := eval.Run(m.schemas, m.query(), db, m.inputs, 200); e == api.OK {
			test(seed, m, db, got)
			rows += len(got.Rows)
		}
	}
	if rows < 8000 {
		t.Errorf("%d rows", rows)
	}
}

func TestP19_2ColumnsOfTypes(t *testing.T) {
	answered(t, func(seed int, m *maker, db []api.Named, got api.Table) {
		var inputs [][]api.Col
		for _, in := range m.inputs {
			inputs = append(inputs, in.Cols)
		}
		all, _, e := check.Types(m.schemas, m.query(), inputs)
		if e != api.OK || !slices.Equal(got.Cols, all[len(all)-1]) || table.Check(got) != api.OK {
			t.Fatalf("seed %d: Run's columns are %v, check's %v, %d", seed, got.Cols, all, e)
		}
	})
}

// respread lays the rows of each name into other tables, in another order.
func (m *maker) respread(db []api.Named) []api.Named {
	var l []api.Named
	for _, d := range db {
		for range 1 + m.r.Intn(3) {
			l = append(l, api.Named{Name: d.Name, T: of(d.T.Cols)})
		}
	}
	m.r.Shuffle(len(l), func(a, b int) { l[a], l[b] = l[b], l[a] })
	for _, d := range db {
		for _, row := range d.T.Rows {
			at := m.r.Intn(len(l))
			for l[at].Name != d.Name {
				at = (at + 1) % len(l)
			}
			l[at].T.Rows = append(l[at].T.Rows, row)
		}
	}
	return l
}

func TestP19_2Spread(t *testing.T) {
	answered(t, func(seed int, m *maker, db []api.Named, want api.Table) {
		for range 3 {
			other := m.respread(db)
			got, e := eval.Run(m.schemas, m.query(), other, m.inputs, 200)
			if e != api.OK || !table.Same(got, want) {
				t.Fatalf("seed %d: Run of %v is %v, %d; of %v it is %v", seed, other, got, e, db, want)
			}
		}
	})
}

// Each answer is in canonical order, and stands in it however the inputs' rows stood.
func TestP19_1CanonicalOrder(t *testing.T) {
	answered(t, func(seed int, m *maker, db []api.Named, want api.Table) {
		if !table.Same(want, table.Canon(want)) {
			t.Fatalf("seed %d: Run is %v", seed, want)
		}
		for _, in := range m.inputs {
			slices.Reverse(in.Rows)
		}
		if got, e := eval.Run(m.schemas, m.query(), db, m.inputs, 200); e != api.OK || !table.Same(got, want) {
			t.Fatalf("seed %d: Run of inputs in another order is %v, %d; want %v", seed, got, e, want)
		}
	})
}

// Nothing of a query but its last node's own nodes makes a difference to its rows, if the budget is great.
func TestP19_1WhatIsNotNamed(t *testing.T) {
	answered(t, func(seed int, m *maker, db []api.Named, want api.Table) {
		last := m.nodes[len(m.nodes)-1]
		q := nodes(slices.Concat(m.nodes[:len(m.nodes)-1], []api.Node{fetch(m.schemas[0].Name), hasText("x", "x"), last})...)
		if got, e := eval.Run(m.schemas, q, db, m.inputs, 200); e != api.OK || !table.Same(got, want) {
			t.Fatalf("seed %d: Run with nodes that none names is %v, %d; want %v", seed, got, e, want)
		}
	})
}

// Many nodes, and many rows; unions that would have too many rows are told of before they are all made.
func TestR1Much(t *testing.T) {
	q := nodes(input(0))
	for k := range 20000 {
		q.N = append(q.N, keep(k, "n", "k"))
	}
	one := []api.Table{ints("k n", 1, 5)}
	if got, e := eval.Run(nil, q, nil, one, 1); e != api.OK || len(got.Rows) != 1 {
		t.Errorf("many nodes: %v, %d", got, e)
	}
	q = nodes(input(0))
	for k := range 1000 {
		q.N = append(q.N, step(api.QUnion, k, k))
	}
	wantError(t, "many unions", said(eval.Run(nil, q, nil, one, 1<<16)), api.ErrBudget)
	many := ints("time host n")
	many.Cols[1].Kind = api.Str
	for k := range 60000 {
		many.Rows = append(many.Rows, []api.Value{intOf(k * 7919 % 60000), strOf("a"), intOf(1)})
	}
	l := []api.Schema{{Name: "s", Keys: colsOf("host:2"), Vals: colsOf("n:1")}}
	db := []api.Named{{Name: "s", T: many}}
	all := parsed(t, "fetch s | keep n | join (fetch s)")
	wantError(t, "a join of all with all", said(eval.Run(l, all, db, nil, 60000)), api.ErrBudget)
	some := parsed(t, "fetch s from 10 to 19 | align 5 | where n > 0 | group time : sum n")
	wantTable(t, "some of many", said(eval.Run(l, some, db, nil, 10)), ints("time sum_n", 10, 5, 15, 5))
}

func all() api.Query {
	cond := api.Node{Kind: api.PCmp, S: "n", N: api.Ge, V: intOf(5)}
	sum, mean := api.Agg{Kind: api.Sum, Col: "n"}, api.Agg{Kind: api.Mean, Col: "n"}
	return nodes(fetch("load"), cond, step(api.QWhere, 0, 1), api.Node{Kind: api.QAlign, L: []int{2}, N: 1}, grouped(3, []string{"time", "host"}, sum, mean),
		input(0), step(api.QJoin, 4, 5), keep(6, "sum_n", "k", "host"), step(api.QUnion, 7, 7), api.Node{Kind: api.QTop, L: []int{8}, N: 20, S: "k"})
}

func allInputs() []api.Table {
	return []api.Table{of(colsOf("k:1 host:2"), []api.Value{intOf(2), strOf("b")}, []api.Value{intOf(1), strOf("a")}, []api.Value{intOf(1), strOf("b")})}
}

// What a call answers hangs on what it was given alone: not on calls ahead.
func TestR6SameEachTime(t *testing.T) {
	want := said(eval.Run(schemas(), all(), some(), allInputs(), 20))
	if want.e != api.OK || len(want.t.Rows) != 10 {
		t.Fatalf("Run is %v", want)
	}
	db := some()
	for range 50 {
		slices.Reverse(db)
		slices.Reverse(db[0].T.Rows)
		eval.Run(schemas(), parsed(t, "fetch lat"), db, nil, 2)
		wantTable(t, "Run", said(eval.Run(schemas(), all(), db, allInputs(), 20)), want.t)
	}
}

// spared is the table with room behind each list's end, in which something stands.
func spared(t api.Table) api.Table {
	out := cloneTable(t)
	for k, row := range out.Rows {
		out.Rows[k] = append(row, intOf(77), intOf(78), intOf(79), intOf(80))[:len(row)]
	}
	out.Cols = append(out.Cols, colsOf("s1:1 s2:1 s3:1 s4:1")...)[:len(t.Cols)]
	out.Rows = append(out.Rows, nil, []api.Value{intOf(1)}, nil, nil)[:len(t.Rows)]
	return out
}

func wantSpared(t *testing.T, got, want api.Table) {
	t.Helper()
	cols, rows := len(want.Cols), len(want.Rows)
	if !table.Same(got, want) || got.Cols[:cols+4][cols].Name != "s1" || got.Cols[:cols+4][cols+3].Name != "s4" || len(got.Rows[:rows+4][rows+1]) != 1 {
		t.Errorf("%v was handed in, and is %v", want, got)
	}
	for _, row := range got.Rows {
		if behind := row[:cols+4][cols:]; !slices.Equal(behind, []api.Value{intOf(77), intOf(78), intOf(79), intOf(80)}) {
			t.Errorf("behind the row %v stands %v", row, behind)
		}
	}
}

// sparedQuery has room behind the lists' ends of its nodes.
func sparedQuery(q api.Query) api.Query {
	out := nodes(append(slices.Clone(q.N), fetch("x"), fetch("y"))[:len(q.N)]...)
	for k, n := range out.N {
		out.N[k].L = append(slices.Clone(n.L), 77, 78)[:len(n.L)]
		out.N[k].Names = append(slices.Clone(n.Names), "s1", "s2")[:len(n.Names)]
		out.N[k].Aggs = append(slices.Clone(n.Aggs), api.Agg{Col: "s1"}, api.Agg{Col: "s2"})[:len(n.Aggs)]
	}
	return out
}

func wantSparedQuery(t *testing.T, got, want api.Query) {
	t.Helper()
	for k, n := range got.N {
		l, names, aggs := n.L[:len(n.L)+2], n.Names[:len(n.Names)+2], n.Aggs[:len(n.Aggs)+2]
		of := want.N[k]
		if !slices.Equal(l, append(slices.Clone(of.L), 77, 78)) || !slices.Equal(names, append(slices.Clone(of.Names), "s1", "s2")) ||
			!slices.Equal(aggs, append(slices.Clone(of.Aggs), api.Agg{Col: "s1"}, api.Agg{Col: "s2"})) || n.Kind != of.Kind || n.S != of.S || n.N != of.N || n.From != of.From || n.To != of.To || n.V != of.V {
			t.Errorf("the node %d was %v, and is %v", k, of, n)
		}
	}
}

// What is handed in stays, and so does the room behind its lists' ends.
func TestR7HandedInStays(t *testing.T) {
	var db []api.Named
	for _, d := range some() {
		db = append(db, api.Named{Name: d.Name, T: spared(d.T)})
	}
	inputs := []api.Table{spared(allInputs()[0])}
	l := schemas()
	for _, q := range []api.Query{all(), nodes(fetch("load")), nodes(input(0)), nodes(fetch("lat"), keep(0, "h")), nodes(input(0), input(0), step(api.QUnion, 0, 1)), nodes(fetch("x")), {}} {
		for _, most := range []int{20, 2, 0, -1} {
			mine := sparedQuery(q)
			eval.Run(l, mine, db, inputs, most)
			wantSparedQuery(t, mine, q)
			for k, d := range some() {
				wantSpared(t, db[k].T, d.T)
			}
			wantSpared(t, inputs[0], allInputs()[0])
		}
	}
	for k, s := range schemas() {
		if l[k].Name != s.Name || !slices.Equal(l[k].Keys, s.Keys) || !slices.Equal(l[k].Vals, s.Vals) {
			t.Errorf("the schema %v was handed in, and is %v", s, l[k])
		}
	}
}

// No list of an answer is one of what was handed in, or another one of it; nor is the room behind its end.
func TestR7OwnMemory(t *testing.T) {
	for _, q := range []api.Query{all(), nodes(fetch("load")), nodes(input(0)), parsed(t, "fetch load | where n > 0"), parsed(t, "fetch load | keep n, time | top 9 by n")} {
		l, db, inputs := schemas(), some(), allInputs()
		// The same row twice, as one list.
		db[0].T.Rows, inputs[0].Rows = append(db[0].T.Rows, db[0].T.Rows[0]), append(inputs[0].Rows, inputs[0].Rows[0])
		got, e := eval.Run(l, q, db, inputs, math.MaxInt)
		again := said(eval.Run(l, q, db, inputs, math.MaxInt))
		want := cloneTable(again.t)
		if e != api.OK || len(got.Rows) < 3 {
			t.Fatalf("Run is %v, %d", got, e)
		}
		for k := range got.Rows {
			for at := range got.Rows[k] {
				got.Rows[k][at] = intOf(100 + k)
			}
			got.Rows[k] = append(got.Rows[k], intOf(-k))
		}
		for k, row := range got.Rows {
			if row[0] != intOf(100+k) || row[len(got.Cols)] != intOf(-k) {
				t.Errorf("the row %d shares another one", k)
			}
		}
		for at := range got.Cols {
			got.Cols[at] = col("z", api.Hist)
		}
		got.Cols, got.Rows = append(got.Cols, col("y", api.Int)), append(got.Rows, nil)
		wantTable(t, "another answer", again, want)
		wantTable(t, "a later answer", said(eval.Run(l, q, db, inputs, math.MaxInt)), want)
	}
}
