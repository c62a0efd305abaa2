package group_test

import (
	"slices"
	"testing"

	"catchment/api"
	"catchment/group"
	"catchment/table"
)

func TestColsByTheRule(t *testing.T) {
	yes := 0
	for seed := range 20000 {
		m := makerOf(seed, true)
		cols := m.cols()
		by, of := m.names(cols), m.aggs(cols)
		parts, whole, ok := group.Cols(cols, by, of)
		wantParts, wantWhole, want := ruleCols(cols, by, of)
		if ok != want || !slices.Equal(parts, wantParts) || !slices.Equal(whole, wantWhole) {
			t.Fatalf("seed %d: Cols(%v, %v, %v) is %v, %v, %v; want %v, %v, %v", seed, cols, by, of, parts, whole, ok, wantParts, wantWhole, want)
		}
		if ok {
			yes++
		}
	}
	if yes < 5000 || yes > 18000 {
		t.Errorf("%d are true", yes)
	}
}

// byTheRule holds a call against its rule, for many groupings; of each of what may be told there has to be some.
func byTheRule(t *testing.T, name string, rule call, make func(m maker) grouping) {
	t.Helper()
	told, rows := map[api.Errno]int{}, 0
	for seed := range 6000 {
		g := make(makerOf(seed, seed%2 == 0))
		got, want := said(calls()[name](g.t, g.names, g.aggs)), said(rule(g.t, g.names, g.aggs))
		if !same(got, want) {
			t.Fatalf("seed %d: %s(%v, %v, %v) is %v, want %v", seed, name, g.t, g.names, g.aggs, got, want)
		}
		if got.e != api.OK {
			wantError(t, name, got, want.e)
		}
		told[got.e]++
		rows += len(got.t.Rows)
	}
	if len(told) != 4 || min(told[api.OK], told[api.ErrCols], told[api.ErrRows], told[api.ErrArg]) < 100 || rows < 5000 {
		t.Errorf("%s: told are %v, and %d rows", name, told, rows)
	}
}

func TestByTheRule(t *testing.T) {
	byTheRule(t, "Partial", rulePartial, maker.grouping)
	byTheRule(t, "Group", ruleGroup, maker.grouping)
	byTheRule(t, "Merge", ruleMerge, maker.parts)
	byTheRule(t, "Finish", ruleFinish, maker.parts)
}

// done is what a call answers where it has to.
func done(t *testing.T, name string, g grouping) api.Table {
	t.Helper()
	out, e := calls()[name](g.t, g.names, g.aggs)
	if e != api.OK {
		t.Fatalf("%s(%v, %v, %v) is %d", name, g.t, g.names, g.aggs, e)
	}
	return out
}

func (g grouping) with(t api.Table) grouping {
	g.t = t
	return g
}

// thatMayBe puts groupings of which there are columns to a test.
func thatMayBe(t *testing.T, test func(m maker, g grouping)) {
	t.Helper()
	many := 0
	for seed := range 6000 {
		m := makerOf(seed, false)
		g := m.grouping()
		if _, _, ok := group.Cols(g.t.Cols, g.names, g.aggs); ok {
			test(m, g)
			many += len(g.t.Rows)
		}
	}
	if many < 10000 {
		t.Errorf("%d rows", many)
	}
}

// together are the rows of tables of the same columns, as they come.
func together(l []api.Table) api.Table {
	out := of(l[0].Cols)
	for _, t := range l {
		out.Rows = append(out.Rows, t.Rows...)
	}
	return out
}

func ofEach(l []api.Table, to func(api.Table) api.Table) []api.Table {
	var out []api.Table
	for _, t := range l {
		out = append(out, to(t))
	}
	return out
}

func TestP18_5Pieces(t *testing.T) {
	thatMayBe(t, func(m maker, g grouping) {
		partial := func(piece api.Table) api.Table { return done(t, "Partial", g.with(piece)) }
		merge := func(parts api.Table) api.Table { return done(t, "Merge", g.with(parts)) }
		want := done(t, "Group", g)
		pieces := m.pieces(g.t)
		parts := ofEach(pieces, partial)
		merged := merge(together(parts))
		if got := done(t, "Finish", g.with(merged)); !table.Same(got, want) {
			t.Fatalf("of %v, by %v of %v, in %d pieces: %v, want %v", g.t, g.names, g.aggs, len(pieces), got, want)
		}
		if whole := partial(g.t); !table.Same(merged, whole) {
			t.Fatalf("of %v, by %v of %v: %v is merged, the whole is %v", g.t, g.names, g.aggs, merged, whole)
		}
		// By the way of some zones, each with some of the pieces.
		zones := []api.Table{of(merged.Cols), of(merged.Cols), of(merged.Cols)}
		for _, p := range parts {
			at := m.r.Intn(len(zones))
			zones[at].Rows = append(zones[at].Rows, p.Rows...)
		}
		if got := merge(together(ofEach(zones, merge))); !table.Same(got, merged) {
			t.Fatalf("of %v, by %v of %v, by zones: %v, want %v", g.t, g.names, g.aggs, got, merged)
		}
	})
}

func TestP18_5MergeOfMerge(t *testing.T) {
	rows := 0
	for seed := range 4000 {
		g := makerOf(seed, false).parts()
		once := done(t, "Merge", g)
		if twice := done(t, "Merge", g.with(once)); !table.Same(once, twice) {
			t.Fatalf("seed %d: Merge(%v, %v, %v) is %v, and that merged %v", seed, g.t, g.names, g.aggs, once, twice)
		}
		if !table.Same(once, table.Canon(once)) {
			t.Fatalf("seed %d: %v is not in order", seed, once)
		}
		rows += len(once.Rows)
	}
	if rows < 4000 {
		t.Errorf("%d rows", rows)
	}
}

// There is no group without rows, none twice, and each row is in one; and the columns are those that Cols says.
func TestP18_5RowsOfGroups(t *testing.T) {
	thatMayBe(t, func(m maker, g grouping) {
		parts, whole, _ := group.Cols(g.t.Cols, g.names, g.aggs)
		p, out := done(t, "Partial", g), done(t, "Group", g)
		if !slices.Equal(p.Cols, parts) || !slices.Equal(out.Cols, whole) || len(p.Rows) != len(out.Rows) || table.Check(p) != api.OK || table.Check(out) != api.OK || !table.Same(out, table.Canon(out)) {
			t.Fatalf("of %v, by %v of %v: %v, and %v", g.t, g.names, g.aggs, p, out)
		}
		if (len(out.Rows) == 0) != (len(g.t.Rows) == 0) || len(g.names) == 0 && len(out.Rows) > 1 {
			t.Fatalf("of %v, by %v of %v there are %d groups", g.t, g.names, g.aggs, len(out.Rows))
		}
		counted := g
		counted.aggs = []api.Agg{{Kind: api.Count}}
		sum := 0
		for k, row := range done(t, "Group", counted).Rows {
			sum += row[len(g.names)].N
			if row[len(g.names)].N < 1 || !slices.Equal(row[:len(g.names)], out.Rows[k][:len(g.names)]) {
				t.Fatalf("of %v, by %v of %v: %v, and %v", g.t, g.names, g.aggs, row, out.Rows[k])
			}
		}
		if sum != len(g.t.Rows) {
			t.Fatalf("of %v, by %v, %d rows are counted", g.t, g.names, sum)
		}
	})
}

// Many rows: each a group, and all one.
func TestR1ManyRows(t *testing.T) {
	const many = 60000
	in := ints("k n")
	for k := range many {
		in.Rows = append(in.Rows, []api.Value{intOf(k * 7919 % many), intOf(k)})
	}
	each, e := group.Group(in, names("k"), aggs("count", "max n", "mean n"))
	if e != api.OK || len(each.Rows) != many || each.Rows[0][0] != intOf(0) || each.Rows[many-1][0] != intOf(many-1) || each.Rows[7919][2] != intOf(1) {
		t.Errorf("Group by k is %d, with %d rows", e, len(each.Rows))
	}
	wantTable(t, "Group of all", said(group.Group(in, nil, aggs("count", "max n", "sum k"))), ints("count max_n sum_k", many, many-1, many*(many-1)/2))
}

// However many names and aggregates there are, each is not held against each.
func TestR1ManyNames(t *testing.T) {
	by, of := make([]string, 1<<17), make([]api.Agg, 1<<17)
	for k := range by {
		by[k], of[k] = "k", api.Agg{Kind: api.Count}
	}
	means := slices.Repeat(aggs("mean n"), 1<<17)
	in, parts := ints("k n", 1, 2), ints("k p#0", 1, 2)
	for name, call := range calls() {
		for _, taken := range []api.Table{in, parts} {
			wantError(t, name, said(call(taken, by, of[:1])), api.ErrArg)
			wantError(t, name, said(call(taken, by[:1], of)), api.ErrArg)
			wantError(t, name, said(call(taken, by, of)), api.ErrArg)
			wantError(t, name, said(call(taken, by, means)), api.ErrArg)
			wantError(t, name, said(call(taken, nil, means)), api.ErrArg)
		}
	}
	wantNoCols(t, in.Cols, by, of)
	wantNoCols(t, in.Cols, nil, of)
	wantNoCols(t, make([]api.Col, 1<<17), by[:1], of[:1])
}

// goodCalls are each call with what it takes; the same lists in each go.
func goodCalls() map[string]grouping {
	by, all := names("host", "up"), aggs("count", "mean n", "merge h", "min time", "max n")
	parts, _ := group.Partial(wideTable(), by, all)
	parts.Rows = append(parts.Rows, cloneTable(parts).Rows...)
	return map[string]grouping{"Partial": {wideTable(), by, all}, "Group": {wideTable(), by, all}, "Merge": {parts, by, all}, "Finish": {cloneTable(parts), by, all}}
}

// What a call answers hangs on what it was given alone: not on calls ahead; nor on the order of rows, but where they stay in it.
func TestR6SameEachTime(t *testing.T) {
	for name, g := range goodCalls() {
		want := done(t, name, g)
		for k := range 60 {
			if name != "Finish" {
				g.t.Rows = append(g.t.Rows[1:], g.t.Rows[0])
			}
			if k%7 == 0 {
				done(t, "Group", goodCalls()["Group"].with(of(wide())))
			}
			wantTable(t, name, said(calls()[name](g.t, g.names, g.aggs)), want)
		}
	}
}

// spared is the grouping with room behind each list's end, in which something stands.
func (g grouping) spared() grouping {
	out := grouping{t: cloneTable(g.t)}
	for k, row := range out.t.Rows {
		out.t.Rows[k] = append(row, intOf(77), intOf(78))[:len(row)]
	}
	out.t.Cols = append(out.t.Cols, colsOf("s1", "s2")...)[:len(g.t.Cols)]
	out.t.Rows = append(out.t.Rows, nil, []api.Value{intOf(1)})[:len(g.t.Rows)]
	out.names = append(slices.Clone(g.names), "t1", "t2")[:len(g.names)]
	out.aggs = append(slices.Clone(g.aggs), agg("sum u1"), agg("sum u2"))[:len(g.aggs)]
	return out
}

func wantSpared(t *testing.T, got, want grouping) {
	t.Helper()
	cols, rows := len(want.t.Cols), len(want.t.Rows)
	if !table.Same(got.t, want.t) || !slices.Equal(got.t.Cols[:cols+2][cols:], colsOf("s1", "s2")) || len(got.t.Rows[:rows+2][rows+1]) != 1 || got.t.Rows[:rows+2][rows] != nil {
		t.Errorf("%v was handed in, and is %v", want, got)
	}
	for _, row := range got.t.Rows {
		if behind := row[:cols+2][cols:]; !slices.Equal(behind, []api.Value{intOf(77), intOf(78)}) {
			t.Errorf("behind the row %v stands %v", row, behind)
		}
	}
	if all := append(slices.Clone(want.names), "t1", "t2"); !slices.Equal(got.names[:len(all)], all) {
		t.Errorf("the names %v are %v", want.names, got.names[:len(all)])
	}
	if all := append(slices.Clone(want.aggs), agg("sum u1"), agg("sum u2")); !slices.Equal(got.aggs[:len(all)], all) {
		t.Errorf("the aggregates %v are %v", want.aggs, got.aggs[:len(all)])
	}
}

// What is handed in stays, and so does the room behind its lists' ends.
func TestR7HandedInStays(t *testing.T) {
	for name, want := range goodCalls() {
		for _, by := range [][]string{want.names, nil, names("x"), want.names[:1]} {
			want := grouping{want.t, by, want.aggs}
			g := want.spared()
			calls()[name](g.t, g.names, g.aggs)
			group.Cols(g.t.Cols, g.names, g.aggs)
			wantSpared(t, g, want)
		}
	}
}

// No list of an answer is one of what was handed in, or another one of it; nor is the room behind its end.
func TestR7OwnMemory(t *testing.T) {
	for name, g := range goodCalls() {
		// The same row twice, as one list.
		g.t.Rows = append(g.t.Rows, g.t.Rows[0])
		before := cloneTable(g.t)
		got, again := done(t, name, g), done(t, name, g)
		want := cloneTable(again)
		for k := range got.Rows {
			for at := range got.Rows[k] {
				got.Rows[k][at] = intOf(100 + k)
			}
			got.Rows[k] = append(got.Rows[k], intOf(-k))
		}
		for k, row := range got.Rows {
			if row[0] != intOf(100+k) || row[len(got.Cols)] != intOf(-k) {
				t.Errorf("%s: the row %d shares another one", name, k)
			}
		}
		for at := range got.Cols {
			got.Cols[at] = col("z", api.Hist)
		}
		got.Cols, got.Rows = append(got.Cols, col("y", api.Int)), append(got.Rows, nil)
		if !table.Same(g.t, before) || !table.Same(again, want) {
			t.Errorf("%s: the answer shares what was handed in, or another answer", name)
		}
		g.t.Cols[0].Name = "other"
		for _, row := range g.t.Rows {
			row[0] = boolOf(0)
		}
		wantTable(t, name, answer{t: again}, want)
	}
}

func TestR7ColsOwnMemory(t *testing.T) {
	cols, by, of := wide(), names("host", "up"), aggs("count", "mean n")
	parts, whole, _ := group.Cols(cols, by, of)
	wantWhole := slices.Clone(whole)
	for at := range parts {
		parts[at] = col("z", api.Hist)
	}
	_ = append(parts, col("y", api.Int))
	if !slices.Equal(whole, wantWhole) || !slices.Equal(cols, wide()) {
		t.Error("the columns of parts share others")
	}
	for at := range whole {
		whole[at] = col("z", api.Hist)
	}
	if !slices.Equal(cols, wide()) {
		t.Error("the whole ones share what was handed in")
	}
}
