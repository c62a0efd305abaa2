package rowops_test

import (
	"math"
	"reflect"
	"slices"
	"strings"
	"testing"

	"catchment/api"
	"catchment/rowops"
	"catchment/table"
)

func col(name string, kind int) api.Col { return api.Col{Name: name, Kind: kind} }

func intOf(n int) api.Value { return api.Value{Kind: api.Int, N: n} }

func strOf(s string) api.Value { return api.Value{Kind: api.Str, S: s} }

func boolOf(n int) api.Value { return api.Value{Kind: api.Bool, N: n} }

func histOf(h ...int) api.Value {
	v := api.Value{Kind: api.Hist}
	copy(v.H[:], h)
	return v
}

func cmp(name string, how int, v api.Value) api.Node {
	return api.Node{Kind: api.PCmp, S: name, N: how, V: v}
}

func has(name, s string) api.Node { return api.Node{Kind: api.PHas, S: name, V: strOf(s)} }

func of(cols []api.Col, rows ...[]api.Value) api.Table { return api.Table{Cols: cols, Rows: rows} }

// pairs is a table of two Int columns, row by row.
func pairs(x, y string, l ...int) api.Table {
	t := of([]api.Col{col(x, api.Int), col(y, api.Int)})
	for i := 0; i < len(l); i += 2 {
		t.Rows = append(t.Rows, []api.Value{intOf(l[i]), intOf(l[i+1])})
	}
	return t
}

// full is a table of each kind of columns, with its rows in no order.
func full() api.Table {
	return of([]api.Col{col("host", api.Str), col("time", api.Int), col("up", api.Bool), col("h", api.Hist)},
		[]api.Value{strOf("b"), intOf(7), boolOf(1), histOf(1)},
		[]api.Value{strOf("a"), intOf(12), boolOf(0), histOf(0, 2)},
		[]api.Value{strOf("a"), intOf(3), boolOf(1), histOf()},
		[]api.Value{strOf("b"), intOf(7), boolOf(1), histOf(1)},
		[]api.Value{strOf(""), intOf(-4), boolOf(0), histOf(-1)},
	)
}

// picked are full's rows at these places.
func picked(l ...int) api.Table {
	t := full()
	out := of(t.Cols)
	for _, at := range l {
		out.Rows = append(out.Rows, t.Rows[at])
	}
	return out
}

// answer is what a call answers, as one thing.
type answer struct {
	t api.Table
	e api.Errno
}

func said(t api.Table, e api.Errno) answer { return answer{t, e} }

func wantTable(t *testing.T, what string, got answer, want api.Table) {
	t.Helper()
	if got.e != api.OK || !table.Same(got.t, want) {
		t.Errorf("%s is %v, want %v", what, got, want)
	}
}

// wantError asks for nothing beside the error, too.
func wantError(t *testing.T, what string, got answer, want api.Errno) {
	t.Helper()
	if got.e != want || got.t.Cols != nil || got.t.Rows != nil {
		t.Errorf("%s is %v, want the error %d alone", what, got, want)
	}
}

func TestExamples(t *testing.T) {
	wantTable(t, "Align", said(rowops.Align(pairs("time", "n", -1, 0, 25, 1), 10)), pairs("time", "n", -10, 0, 20, 1))
	in := pairs("time", "n", 1, 5, 2, 7, 3, 7)
	wantTable(t, "Top", said(rowops.Top(in, 2, "n")), pairs("time", "n", 2, 7, 3, 7))
	wantError(t, "Top of 0", said(rowops.Top(in, 0, "n")), api.ErrArg)
	wantError(t, "Top by x", said(rowops.Top(in, 1, "x")), api.ErrArg)
	wantError(t, "Align by 0", said(rowops.Align(in, 0)), api.ErrArg)
}

func TestP16_1Multiples(t *testing.T) {
	for _, c := range []struct{ time, width, want int }{
		{0, 1, 0}, {7, 1, 7}, {-7, 1, -7}, {math.MinInt, 1, math.MinInt}, {math.MaxInt, 1, math.MaxInt},
		{0, 10, 0}, {1, 10, 0}, {9, 10, 0}, {10, 10, 10}, {11, 10, 10}, {19, 10, 10}, {20, 10, 20},
		{-1, 10, -10}, {-9, 10, -10}, {-10, 10, -10}, {-11, 10, -20}, {-20, 10, -20}, {-21, 10, -30},
		{math.MaxInt, 2, math.MaxInt - 1}, {math.MaxInt, 10, math.MaxInt - 7}, {math.MaxInt, math.MaxInt, math.MaxInt},
		{math.MaxInt - 1, math.MaxInt, 0}, {5, math.MaxInt, 0}, {0, math.MaxInt, 0}, {-1, math.MaxInt, -math.MaxInt},
		{-math.MaxInt, math.MaxInt, -math.MaxInt}, {1 << 40, 1 << 39, 1 << 40}, {1<<40 - 1, 1 << 39, 1 << 39},
	} {
		in, want := pairs("time", "n", c.time, 3), pairs("time", "n", c.want, 3)
		wantTable(t, "Align", said(rowops.Align(in, c.width)), want)
	}
}

// -2^63 is a multiple of 2, of 8 the last one, and none of 3 or of 10.
func TestP16_1BelowAllNumbers(t *testing.T) {
	low := math.MinInt
	for _, c := range []struct{ time, width, want int }{
		{low, 2, low}, {low + 1, 2, low}, {low + 2, 2, low + 2}, {low + 7, 8, low}, {low + 8, 8, low + 8},
		{low, 3, low}, {low + 1, 3, low + 1}, {low + 2, 3, low + 2}, {low + 3, 3, low + 2}, {low + 4, 3, low + 2}, {low + 5, 3, low + 5},
		{low, 10, low}, {low + 7, 10, low + 7}, {low + 8, 10, low + 8}, {low + 9, 10, low + 8}, {low + 17, 10, low + 8}, {low + 18, 10, low + 18},
		{low, math.MaxInt, low}, {low + 1, math.MaxInt, low + 1}, {low + 2, math.MaxInt, low + 1},
		{low, math.MaxInt - 1, low}, {low + 1, math.MaxInt - 1, low + 1}, {low + 2, math.MaxInt - 1, low + 2}, {-1, math.MaxInt - 1, low + 2},
		{low, 1 << 62, low}, {low + 1, 1 << 62, low}, {-1, 1 << 62, -1 << 62},
	} {
		in, want := pairs("time", "n", c.time, 3), pairs("time", "n", c.want, 3)
		wantTable(t, "Align", said(rowops.Align(in, c.width)), want)
	}
}

func TestP16_1Widths(t *testing.T) {
	for _, width := range []int{0, -1, -10, math.MinInt, math.MinInt + 1} {
		wantError(t, "Align", said(rowops.Align(pairs("time", "n", 1, 2), width)), api.ErrArg)
		wantError(t, "Align of no rows", said(rowops.Align(pairs("time", "n"), width)), api.ErrArg)
	}
	for _, width := range []int{1, 2, 1001, 4097, 1 << 40, 1<<40 + 1, 1 << 41, math.MaxInt} {
		wantTable(t, "Align of no rows", said(rowops.Align(pairs("time", "n"), width)), pairs("time", "n"))
		wantTable(t, "Align of 0", said(rowops.Align(pairs("time", "n", 0, 2), width)), pairs("time", "n", 0, 2))
	}
}

// The column is the one of that name, be it the first or not, and none but an Int.
func TestP16_1TimeColumn(t *testing.T) {
	for _, name := range []string{"t", "tim", "times", "time_", "time#", "n", "time2"} {
		wantError(t, "Align", said(rowops.Align(pairs(name, "x", 1, 2), 5)), api.ErrArg)
	}
	for kind, v := range map[int]api.Value{api.Str: strOf("5"), api.Bool: boolOf(1), api.Hist: histOf(1)} {
		cols := []api.Col{col("n", api.Int), col("time", kind)}
		wantError(t, "Align", said(rowops.Align(of(cols, []api.Value{intOf(5), v}), 5)), api.ErrArg)
		wantError(t, "Align of no rows", said(rowops.Align(of(cols), 5)), api.ErrArg)
	}
	wantTable(t, "Align of the first", said(rowops.Align(pairs("time", "n", 17, 17), 10)), pairs("time", "n", 10, 17))
	wantTable(t, "Align of the last", said(rowops.Align(pairs("n", "time", 17, 17), 10)), pairs("n", "time", 17, 10))
	one := []api.Col{col("time", api.Int)}
	wantTable(t, "Align of it alone", said(rowops.Align(of(one, []api.Value{intOf(17)}), 10)), of(one, []api.Value{intOf(10)}))
}

// Times that were not the same become so: then the columns behind tell the order; and no row is lost.
func TestP16_1Order(t *testing.T) {
	in := pairs("time", "n", 25, 1, 13, 9, 11, 4, 19, 4, 12, 2, -3, 8, 19, 4)
	wantTable(t, "Align", said(rowops.Align(in, 10)), pairs("time", "n", -10, 8, 10, 2, 10, 4, 10, 4, 10, 4, 10, 9, 20, 1))
	wantTable(t, "Align by 1", said(rowops.Align(in, 1)), pairs("time", "n", -3, 8, 11, 4, 12, 2, 13, 9, 19, 4, 19, 4, 25, 1))
	low := math.MinInt
	wantTable(t, "Align at the end", said(rowops.Align(pairs("time", "n", low+9, 1, low+7, 1, low, 2), 10)), pairs("time", "n", low, 2, low+7, 1, low+8, 1))
	want := picked(4, 2, 1, 0, 3)
	for k, time := range []int{-5, 0, 10, 5, 5} {
		want.Rows[k] = slices.Clone(want.Rows[k])
		want.Rows[k][1] = intOf(time)
	}
	wantTable(t, "Align of all kinds", said(rowops.Align(full(), 5)), want)
}

func TestP16_2HowMany(t *testing.T) {
	in := of([]api.Col{col("n", api.Int)})
	for k := range 1500 {
		in.Rows = append(in.Rows, []api.Value{intOf(k * 7 % 1500)})
	}
	for _, n := range []int{1, 2, 3, 499, 998, 999, 1000} {
		want := of(in.Cols)
		for k := range n {
			want.Rows = append(want.Rows, []api.Value{intOf(1500 - n + k)})
		}
		wantTable(t, "Top", said(rowops.Top(in, n, "n")), want)
	}
	for _, n := range []int{0, -1, -1000, 1001, 1002, 1500, 4096, math.MaxInt, math.MinInt} {
		wantError(t, "Top", said(rowops.Top(in, n, "n")), api.ErrArg)
		wantError(t, "Top of no rows", said(rowops.Top(of(in.Cols), n, "n")), api.ErrArg)
	}
}

func TestP16_2AllRows(t *testing.T) {
	in := pairs("time", "n", 3, 1, 1, 2, 2, 2)
	for _, n := range []int{3, 4, 5, 999, 1000} {
		wantTable(t, "Top", said(rowops.Top(in, n, "n")), pairs("time", "n", 1, 2, 2, 2, 3, 1))
		wantTable(t, "Top of no rows", said(rowops.Top(pairs("time", "n"), n, "n")), pairs("time", "n"))
	}
}

func TestP16_2Columns(t *testing.T) {
	for _, name := range []string{"", "x", "hos", "hosts", "Time", "time ", "h", "up2"} {
		wantError(t, "Top by "+name, said(rowops.Top(full(), 2, name)), api.ErrArg)
		wantError(t, "Top of no rows by "+name, said(rowops.Top(picked(), 2, name)), api.ErrArg)
	}
	for n, want := range map[int]api.Table{1: picked(1), 2: picked(1, 0), 3: picked(1, 0, 3), 4: picked(2, 1, 0, 3), 5: picked(4, 2, 1, 0, 3)} {
		wantTable(t, "Top by time", said(rowops.Top(full(), n, "time")), want)
	}
	for n, want := range map[int]api.Table{1: picked(0), 2: picked(0, 3), 3: picked(2, 0, 3), 4: picked(2, 1, 0, 3), 5: picked(4, 2, 1, 0, 3)} {
		wantTable(t, "Top by host", said(rowops.Top(full(), n, "host")), want)
	}
	for n, want := range map[int]api.Table{1: picked(2), 2: picked(2, 0), 3: picked(2, 0, 3), 4: picked(4, 2, 0, 3), 5: picked(4, 2, 1, 0, 3)} {
		wantTable(t, "Top by up", said(rowops.Top(full(), n, "up")), want)
	}
}

// The order of values is that of chapter 1: of numbers with their signs, of texts byte by byte.
func TestP16_2Greater(t *testing.T) {
	for kind, l := range map[int][]api.Value{
		api.Int:  {intOf(math.MinInt), intOf(-10), intOf(-9), intOf(0), intOf(2), intOf(10), intOf(math.MaxInt)},
		api.Str:  {strOf(""), strOf("\x00"), strOf("10"), strOf("9"), strOf("Z"), strOf("a"), strOf("aa"), strOf("b"), strOf("\xff"), strOf("\xff" + strings.Repeat("z", 63))},
		api.Bool: {boolOf(0), boolOf(1)},
	} {
		// What stands ahead of the column goes the other way round.
		in := of([]api.Col{col("a", api.Int), col("k", kind), col("h", api.Hist)})
		for k, v := range l {
			in.Rows = append(in.Rows, []api.Value{intOf(-k), v, histOf(k)})
		}
		for n := 1; n <= len(l); n++ {
			want := of(in.Cols, slices.Clone(in.Rows[len(l)-n:])...)
			slices.Reverse(want.Rows)
			wantTable(t, "Top", said(rowops.Top(in, n, "k")), want)
		}
	}
}

// Of those that have the same value the ones that stand ahead come first, by all columns, wherever they stood.
func TestP16_2SameValue(t *testing.T) {
	cols := []api.Col{col("n", api.Int), col("host", api.Str), col("h", api.Hist)}
	rows := [][]api.Value{
		{intOf(4), strOf("z"), histOf(9)}, {intOf(5), strOf("a"), histOf(1)}, {intOf(5), strOf("a"), histOf(2)},
		{intOf(5), strOf("b"), histOf()}, {intOf(5), strOf("b"), histOf()}, {intOf(6), strOf("c"), histOf(-1)},
	}
	for _, order := range [][]int{{0, 1, 2, 3, 4, 5}, {5, 4, 3, 2, 1, 0}, {3, 0, 2, 5, 1, 4}, {4, 5, 1, 0, 3, 2}} {
		in := of(cols)
		for _, at := range order {
			in.Rows = append(in.Rows, rows[at])
		}
		for n, want := range map[int][]int{1: {5}, 2: {1, 5}, 3: {1, 2, 5}, 4: {1, 2, 3, 5}, 5: {1, 2, 3, 4, 5}, 6: {0, 1, 2, 3, 4, 5}} {
			out := of(cols)
			for _, at := range want {
				out.Rows = append(out.Rows, rows[at])
			}
			wantTable(t, "Top", said(rowops.Top(in, n, "n")), out)
		}
	}
	same := pairs("time", "n", 1, 5, 1, 5, 1, 5, 1, 4)
	wantTable(t, "Top of the same ones", said(rowops.Top(same, 2, "n")), pairs("time", "n", 1, 5, 1, 5))
}

// The rows for which it holds, in canonical order, the same ones as often as they are there.
func TestP16_3Filter(t *testing.T) {
	q := api.Query{N: []api.Node{
		cmp("time", api.Gt, intOf(3)), has("host", "a"), {Kind: api.PNot, L: []int{0}}, {Kind: api.PAnd, L: []int{0, 1}}, {Kind: api.POr, L: []int{2, 3}},
		cmp("time", api.Ge, intOf(-4)), cmp("y", api.Eq, intOf(1)), cmp("h", api.Eq, histOf(1)), {Kind: api.PAnd, L: []int{0}}, {Kind: api.QFetch},
	}}
	for i, want := range []api.Table{
		picked(1, 0, 3), picked(2, 1), picked(4, 2), picked(1), picked(4, 2, 1),
		picked(4, 2, 1, 0, 3), picked(), picked(0, 3), picked(), picked(), picked(),
	} {
		wantTable(t, "Filter", said(rowops.Filter(full(), q, i)), want)
		wantTable(t, "Filter of no rows", said(rowops.Filter(picked(), q, i)), picked())
	}
	for _, i := range []int{-1, math.MinInt, math.MaxInt} {
		wantTable(t, "Filter of no node", said(rowops.Filter(full(), q, i)), picked())
	}
	wantTable(t, "Filter of no query", said(rowops.Filter(full(), api.Query{}, 0)), picked())
}

// wrongTables are such that no table may be, with what is told of them.
func wrongTables() map[api.Errno][]api.Table {
	time := []api.Col{col("time", api.Int), col("n", api.Int)}
	var many []api.Col
	for k := range 17 {
		many = append(many, col("c"+string(rune('a'+k)), api.Int))
	}
	return map[api.Errno][]api.Table{
		api.ErrCols: {
			{}, of(append(slices.Clone(time), time[0])), of([]api.Col{time[0], col("N", api.Int)}), of([]api.Col{time[0], col("n", 0)}), of([]api.Col{time[0], col("n", 5)}), of(many),
			of([]api.Col{time[0], col("", api.Int)}, []api.Value{intOf(1)}), of(append(slices.Clone(time), time[1]), []api.Value{strOf("x")}), of(nil, []api.Value{intOf(1)}),
		},
		api.ErrRows: {
			of(time, nil), of(time, []api.Value{intOf(1)}), of(time, []api.Value{intOf(1), intOf(2), intOf(3)}), of(time, []api.Value{intOf(1), strOf("2")}), of(time, []api.Value{strOf("1"), intOf(2)}),
			of(time, []api.Value{intOf(1), intOf(2)}, []api.Value{intOf(1), {Kind: api.Int, N: 2, S: "x"}}), of(time, []api.Value{{}, intOf(2)}),
			of([]api.Col{col("time", api.Int), col("s", api.Str)}, []api.Value{intOf(1), strOf(strings.Repeat("a", 65))}),
		},
	}
}

// A table that may not be is told ahead of an argument that may not.
func TestCheckFirst(t *testing.T) {
	q := api.Query{N: []api.Node{cmp("time", api.Gt, intOf(3))}}
	for want, l := range wrongTables() {
		for _, in := range l {
			for _, width := range []int{10, 0, -1} {
				wantError(t, "Align", said(rowops.Align(in, width)), want)
			}
			for _, n := range []int{1, 1000, 0, 1001} {
				for _, name := range []string{"time", "n", "x", ""} {
					wantError(t, "Top", said(rowops.Top(in, n, name)), want)
				}
			}
			for _, i := range []int{0, -1, 1} {
				wantError(t, "Filter", said(rowops.Filter(in, q, i)), want)
			}
			wantError(t, "Filter of no query", said(rowops.Filter(in, api.Query{}, 0)), want)
		}
	}
}

func same(a, b answer) bool { return a.e == b.e && table.Same(a.t, b.t) }

func TestByTheRule(t *testing.T) {
	told := map[api.Errno]int{}
	for seed := range 6000 {
		m := makerOf(seed, seed%2 == 0)
		in, width, n, name, q := m.table(), m.width(), m.many(), m.name(), m.query()
		aligned, first := said(rowops.Align(in, width)), said(rowops.Top(in, n, name))
		if want := said(ruleAlign(in, width)); !same(aligned, want) {
			t.Fatalf("seed %d: Align(%v, %d) is %v, want %v", seed, in, width, aligned, want)
		}
		if want := said(ruleTop(in, n, name)); !same(first, want) {
			t.Fatalf("seed %d: Top(%v, %d, %s) is %v, want %v", seed, in, n, name, first, want)
		}
		told[aligned.e]++
		told[first.e]++
		for i := -1; i <= len(q.N); i++ {
			if got, want := said(rowops.Filter(in, q, i)), said(ruleFilter(in, q, i)); !same(got, want) {
				t.Fatalf("seed %d: Filter(%v, %v, %d) is %v, want %v", seed, in, q, i, got, want)
			}
		}
	}
	if len(told) != 4 || min(told[api.OK], told[api.ErrArg], told[api.ErrCols], told[api.ErrRows]) < 500 {
		t.Errorf("told are %v", told)
	}
}

// top is Top where it has to answer.
func top(t *testing.T, in api.Table, n int, name string) api.Table {
	t.Helper()
	out, e := rowops.Top(in, n, name)
	if e != api.OK {
		t.Fatalf("Top(%v, %d, %s) is %d", in, n, name, e)
	}
	return out
}

func TestP16_4TopOfTop(t *testing.T) {
	for seed := range 200 {
		m := makerOf(seed, false)
		in := m.table()
		for _, c := range in.Cols {
			if c.Kind == api.Hist {
				continue
			}
			for n := 1; n < 9; n++ {
				for k := 1; k < 9; k++ {
					want := top(t, in, min(n, k), c.Name)
					wantTable(t, "Top of Top", said(rowops.Top(top(t, in, n, c.Name), k, c.Name)), want)
				}
			}
		}
	}
}

func TestP16_4TopOfParts(t *testing.T) {
	for seed := range 2000 {
		m := makerOf(seed, false)
		in := m.table()
		for _, c := range in.Cols {
			if c.Kind == api.Hist {
				continue
			}
			n := 1 + m.r.Intn(6)
			both := of(in.Cols)
			for _, part := range m.parts(in) {
				both.Rows = append(both.Rows, top(t, part, n, c.Name).Rows...)
			}
			wantTable(t, "Top of Tops", said(rowops.Top(both, n, c.Name)), top(t, in, n, c.Name))
		}
	}
}

func TestP16_4AlignOfAlign(t *testing.T) {
	aligned := 0
	for seed := range 2000 {
		m := makerOf(seed, false)
		in, width := m.table(), m.width()
		once, e := rowops.Align(in, width)
		if e != api.OK {
			continue
		}
		wantTable(t, "Align of Align", said(rowops.Align(once, width)), once)
		aligned += len(once.Rows)
	}
	if aligned < 1000 {
		t.Errorf("%d rows", aligned)
	}
}

// More rows than any table that goes as bytes has, in no order, with many of the same value.
func TestR1ManyRows(t *testing.T) {
	in := pairs("time", "n")
	for k := range 60000 {
		in.Rows = append(in.Rows, []api.Value{intOf(k * 7919 % 60000), intOf(k % 3)})
	}
	out, e := rowops.Align(in, 60000)
	if e != api.OK || len(out.Rows) != 60000 || out.Rows[0][1].N != 0 || out.Rows[59999][1].N != 2 || out.Rows[59999][0].N != 0 {
		t.Errorf("Align is %d", e)
	}
	first, e := rowops.Top(in, 1000, "n")
	if e != api.OK || len(first.Rows) != 1000 || slices.ContainsFunc(first.Rows, func(row []api.Value) bool { return row[1].N != 2 }) {
		t.Errorf("Top is %d", e)
	}
	some, e := rowops.Filter(in, api.Query{N: []api.Node{cmp("n", api.Eq, intOf(1))}}, 0)
	if e != api.OK || len(some.Rows) != 20000 || !table.Same(some, table.Canon(some)) {
		t.Errorf("Filter is %d", e)
	}
}

// steps are the three calls, each with arguments that may be.
func steps(q api.Query) map[string]func(api.Table) answer {
	return map[string]func(api.Table) answer{
		"Align":  func(t api.Table) answer { return said(rowops.Align(t, 5)) },
		"Top":    func(t api.Table) answer { return said(rowops.Top(t, 3, "time")) },
		"all":    func(t api.Table) answer { return said(rowops.Top(t, 1000, "host")) },
		"Filter": func(t api.Table) answer { return said(rowops.Filter(t, q, 0)) },
	}
}

func all() api.Query { return api.Query{N: []api.Node{cmp("host", api.Ge, strOf(""))}} }

// What a call answers hangs on what it was given alone: not on calls ahead, nor on the order of rows.
func TestR6SameEachTime(t *testing.T) {
	for name, step := range steps(all()) {
		want := step(full())
		step(picked(2, 1))
		back := full()
		slices.Reverse(back.Rows)
		for _, got := range []answer{step(full()), step(back)} {
			wantTable(t, name, got, want.t)
		}
	}
}

// What is handed in stays, and so does the room behind its lists' ends.
func TestR7HandedInStays(t *testing.T) {
	spare := full()
	for k, row := range spare.Rows {
		spare.Rows[k] = append(row, intOf(77))[:len(row)]
	}
	spare.Cols = append(spare.Cols, col("spare", api.Int))
	spare.Rows = append(spare.Rows, []api.Value{intOf(1)}, []api.Value{intOf(0)})
	in := of(spare.Cols[:4], spare.Rows[:5]...)
	q := all()
	q.N[0].L = append(make([]int, 0, 4), 1)
	wantT, wantQ := cloneTable(spare), cloneQuery(q)
	for name, step := range steps(q) {
		if got := step(in); got.e != api.OK {
			t.Errorf("%s is %d", name, got.e)
		}
		if !table.Same(spare, wantT) || !reflect.DeepEqual(q, wantQ) {
			t.Fatalf("%s: what was handed in is not what it was", name)
		}
		for k, row := range in.Rows {
			if row[:5][4] != intOf(77) {
				t.Errorf("%s: the room behind the row %d", name, k)
			}
		}
	}
}

// No list of an answer is one of what was handed in, or another one of it; nor is the room behind its end.
func TestR7OwnMemory(t *testing.T) {
	for name, step := range steps(all()) {
		in := full()
		// The same row twice, as one list.
		in.Rows[3] = in.Rows[0]
		before := cloneTable(in)
		got, again := step(in), step(in)
		want := cloneTable(again.t)
		for k := range got.t.Rows {
			for at := range got.t.Rows[k] {
				got.t.Rows[k][at] = intOf(100 + k)
			}
			got.t.Rows[k] = append(got.t.Rows[k], intOf(-k))
		}
		for k, row := range got.t.Rows {
			if row[0] != intOf(100+k) || row[4] != intOf(-k) {
				t.Errorf("%s: the row %d shares another one", name, k)
			}
		}
		for at := range got.t.Cols {
			got.t.Cols[at] = col("z", api.Hist)
		}
		got.t.Cols, got.t.Rows = append(got.t.Cols, col("y", api.Int)), append(got.t.Rows, nil)
		if !table.Same(in, before) {
			t.Errorf("%s: the answer shares what was handed in", name)
		}
		for k := range in.Rows {
			in.Rows[k][0] = strOf("other")
		}
		in.Cols[0].Name = "other"
		wantTable(t, name+" once more", again, want)
	}
}
