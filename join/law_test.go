package join_test

import (
	"math"
	"slices"
	"testing"

	"catchment/api"
	"catchment/join"
	"catchment/table"
)

func TestByTheRule(t *testing.T) {
	told, rows := map[api.Errno]int{}, 0
	for seed := range 30000 {
		m := makerOf(seed, seed%2 == 0)
		a, b, most := m.table(), m.table(), m.most()
		got, want := said(join.Join(a, b, most)), said(ruleJoin(a, b, most))
		if !same(got, want) {
			t.Fatalf("seed %d: Join(%v, %v, %d) is %v, want %v", seed, a, b, most, got, want)
		}
		told[got.e]++
		rows += len(got.t.Rows)
	}
	if len(told) != 4 || min(told[api.OK], told[api.ErrCols], told[api.ErrRows], told[api.ErrBudget]) < 1000 || rows < 10000 {
		t.Errorf("told are %v, and %d rows", told, rows)
	}
}

// joined is Join where it has to answer.
func joined(t *testing.T, a, b api.Table) api.Table {
	t.Helper()
	out, e := join.Join(a, b, math.MaxInt)
	if e != api.OK {
		t.Fatalf("Join(%v, %v) is %d", a, b, e)
	}
	return out
}

// goingTogether puts tables that have a join to a test; in all of them there have to be that many rows, or more.
func goingTogether(t *testing.T, least int, test func(m maker, a, b api.Table)) {
	t.Helper()
	rows := 0
	for seed := range 6000 {
		m := makerOf(seed, false)
		a, b := m.table(), m.table()
		if _, ok := join.Cols(a.Cols, b.Cols); ok {
			test(m, a, b)
			rows += len(joined(t, a, b).Rows)
		}
	}
	if rows < least {
		t.Errorf("%d rows", rows)
	}
}

func namesOf(cols []api.Col) []string {
	var l []string
	for _, c := range cols {
		l = append(l, c.Name)
	}
	return l
}

func TestP17_3ChangedSides(t *testing.T) {
	goingTogether(t, 5000, func(m maker, a, b api.Table) {
		want := joined(t, a, b)
		got, e := table.Keep(joined(t, b, a), namesOf(want.Cols))
		if e != api.OK || !table.Same(got, want) {
			t.Fatalf("Join(%v, %v) is %v, with sides changed %v, %d", a, b, want, got, e)
		}
		// Nor does it matter for a budget.
		most := m.most()
		if x, y := said(join.Join(a, b, most)), said(join.Join(b, a, most)); x.e != y.e {
			t.Fatalf("Join(%v, %v, %d) is %d, with sides changed %d", a, b, most, x.e, y.e)
		}
	})
	refused := 0
	for seed := range 2000 {
		m := makerOf(seed, false)
		a, b := m.cols(), m.cols()
		_, one := join.Cols(a, b)
		_, other := join.Cols(b, a)
		if one != other {
			t.Fatalf("Cols of %v and %v: %v, and %v", a, b, one, other)
		}
		if !one {
			refused++
		}
	}
	if refused < 100 {
		t.Errorf("%d are refused", refused)
	}
}

func TestP17_3Parts(t *testing.T) {
	together := func(x, y api.Table) api.Table {
		out, e := table.Union(x, y)
		if e != api.OK {
			t.Fatalf("Union(%v, %v) is %d", x, y, e)
		}
		return out
	}
	goingTogether(t, 5000, func(m maker, a, b api.Table) {
		want := joined(t, a, b)
		one, other := m.parts(a)
		if got := together(joined(t, one, b), joined(t, other, b)); !table.Same(got, want) {
			t.Fatalf("of %v and %v, with %v: %v, want %v", one, other, b, got, want)
		}
		one, other = m.parts(b)
		if got := together(joined(t, a, one), joined(t, a, other)); !table.Same(got, want) {
			t.Fatalf("of %v, with %v and %v: %v, want %v", a, one, other, got, want)
		}
	})
}

// Many rows: each goes with few; each with all, of which a budget is told without making them.
func TestR1ManyRows(t *testing.T) {
	a, b, c := ints("k n"), ints("m k"), ints("k x")
	for k := range 60000 {
		a.Rows = append(a.Rows, []api.Value{intOf(k * 7919 % 60000), intOf(1)})
		b.Rows = append(b.Rows, []api.Value{intOf(k), intOf(k)})
		c.Rows = append(c.Rows, []api.Value{intOf(7), intOf(k)})
	}
	out, e := join.Join(a, b, 60000)
	if e != api.OK || len(out.Rows) != 60000 || out.Rows[0][2] != intOf(0) || out.Rows[59999][2] != intOf(59999) {
		t.Errorf("Join is %d, with %d rows", e, len(out.Rows))
	}
	wantError(t, "Join", said(join.Join(a, b, 59999)), api.ErrBudget)
	same := ints("k n")
	for range 60000 {
		same.Rows = append(same.Rows, []api.Value{intOf(7), intOf(7)})
	}
	wantError(t, "Join of all with all", said(join.Join(same, c, 60000*60000-1)), api.ErrBudget)
	wantError(t, "Join of all with all", said(join.Join(c, same, 4096)), api.ErrBudget)
}

// However many columns there are, each is not held against each.
func TestR1ManyColumns(t *testing.T) {
	many := make([]api.Col, 1<<21)
	for k := range many {
		many[k] = col("k", api.Int)
	}
	wantNoCols(t, many, many)
	wantNoCols(t, many, colsOf("k"))
	wantNoCols(t, colsOf("x"), many)
	wantNoCols(t, append(colsOf("x"), many[:15]...), append(many, colsOf("z")...))
	wantCols(t, colsOf("x", "k"), many, colsOf("x", "k"))
}

func goodPair() (api.Table, api.Table) {
	a := of([]api.Col{col("host", api.Str), col("n", api.Int), col("h", api.Hist)},
		[]api.Value{strOf("b"), intOf(7), histOf(1)}, []api.Value{strOf("a"), intOf(5), histOf()}, []api.Value{strOf("b"), intOf(6), histOf(2)})
	b := of([]api.Col{col("m", api.Int), col("host", api.Str), col("up", api.Bool)},
		[]api.Value{intOf(4), strOf("b"), boolOf(1)}, []api.Value{intOf(3), strOf("b"), boolOf(0)}, []api.Value{intOf(2), strOf("c"), boolOf(0)}, []api.Value{intOf(1), strOf("a"), boolOf(1)})
	return a, b
}

// What a call answers hangs on what it was given alone: not on calls ahead, nor on the order of rows.
func TestR6SameEachTime(t *testing.T) {
	a, b := goodPair()
	want := joined(t, a, b)
	joined(t, b, a)
	for range 50 {
		slices.Reverse(a.Rows)
		wantTable(t, "Join", said(join.Join(a, b, 5)), want)
		slices.Reverse(b.Rows)
		wantTable(t, "Join", said(join.Join(a, b, 5)), want)
	}
}

// spared is the table with room behind each list's end, in which something stands.
func spared(t api.Table) api.Table {
	out := cloneTable(t)
	for k, row := range out.Rows {
		out.Rows[k] = append(row, intOf(77), intOf(78), intOf(79), intOf(80))[:len(row)]
	}
	out.Cols = append(out.Cols, colsOf("s1", "s2", "s3", "s4")...)[:len(t.Cols)]
	out.Rows = append(out.Rows, nil, []api.Value{intOf(1)}, nil, nil)[:len(t.Rows)]
	return out
}

func wantSpared(t *testing.T, got, want api.Table) {
	t.Helper()
	cols, rows := len(want.Cols), len(want.Rows)
	if !table.Same(got, want) || got.Cols[:cols+4][cols].Name != "s1" || got.Cols[:cols+4][cols+3].Name != "s4" || len(got.Rows[:rows+4][rows+1]) != 1 {
		t.Errorf("%v was handed in, and is %v", want, got)
	}
	for _, row := range got.Rows {
		if behind := row[:cols+4][cols:]; !slices.Equal(behind, []api.Value{intOf(77), intOf(78), intOf(79), intOf(80)}) {
			t.Errorf("behind the row %v stands %v", row, behind)
		}
	}
}

// What is handed in stays, and so does the room behind its lists' ends.
func TestR7HandedInStays(t *testing.T) {
	wantA, wantB := goodPair()
	a, b := spared(wantA), spared(wantB)
	for _, call := range []func(){
		func() { join.Cols(a.Cols, b.Cols) }, func() { join.Cols(b.Cols, a.Cols) },
		func() { join.Join(a, b, 9) }, func() { join.Join(b, a, 9) }, func() { join.Join(a, a, 9) }, func() { join.Join(a, b, 1) },
	} {
		call()
		wantSpared(t, a, wantA)
		wantSpared(t, b, wantB)
	}
}

// No list of an answer is one of what was handed in, or another one of it; nor is the room behind its end.
func TestR7OwnMemory(t *testing.T) {
	a, b := goodPair()
	// The same row twice, as one list; and nothing to lay behind it.
	a.Rows, b.Rows = append(a.Rows, a.Rows[0]), append(b.Rows, b.Rows[0])
	for _, second := range []api.Table{b, of(b.Cols[1:2], []api.Value{strOf("b")}, []api.Value{strOf("b")})} {
		beforeA, beforeB := cloneTable(a), cloneTable(second)
		got, again := joined(t, a, second), joined(t, a, second)
		want := cloneTable(again)
		for k := range got.Rows {
			for at := range got.Rows[k] {
				got.Rows[k][at] = intOf(100 + k)
			}
			got.Rows[k] = append(got.Rows[k], intOf(-k))
		}
		for k, row := range got.Rows {
			if row[0] != intOf(100+k) || row[len(got.Cols)] != intOf(-k) {
				t.Errorf("the row %d shares another one", k)
			}
		}
		for at := range got.Cols {
			got.Cols[at] = col("z", api.Hist)
		}
		got.Cols, got.Rows = append(got.Cols, col("y", api.Int)), append(got.Rows, nil)
		if !table.Same(a, beforeA) || !table.Same(second, beforeB) || !table.Same(again, want) {
			t.Error("the answer shares what was handed in, or another answer")
		}
	}
	out := joined(t, a, b)
	want := cloneTable(out)
	for _, in := range []api.Table{a, b} {
		in.Cols[0].Name = "other"
		for _, row := range in.Rows {
			row[0] = boolOf(0)
		}
	}
	wantTable(t, "Join", answer{t: out}, want)
}

func TestR7ColsOwnMemory(t *testing.T) {
	a, b := goodPair()
	for _, second := range [][]api.Col{b.Cols, b.Cols[1:2]} {
		before, beforeSecond := slices.Clone(a.Cols), slices.Clone(second)
		got, _ := join.Cols(a.Cols, second)
		for at := range got {
			got[at] = col("z", api.Hist)
		}
		if !slices.Equal(a.Cols, before) || !slices.Equal(second, beforeSecond) {
			t.Error("the answer shares what was handed in")
		}
	}
}
