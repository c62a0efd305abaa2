package join_test

import (
	"math"
	"slices"
	"strconv"
	"strings"
	"testing"

	"catchment/api"
	"catchment/join"
	"catchment/table"
)

func col(name string, kind int) api.Col { return api.Col{Name: name, Kind: kind} }

// colsOf are Int columns of these names.
func colsOf(names ...string) []api.Col {
	var l []api.Col
	for _, name := range names {
		l = append(l, col(name, api.Int))
	}
	return l
}

// numbered are so many Int columns, from a number on: c5, c6, ..
func numbered(from, many int) []api.Col {
	var l []api.Col
	for k := from; k < from+many; k++ {
		l = append(l, col("c"+strconv.Itoa(k), api.Int))
	}
	return l
}

func intOf(n int) api.Value { return api.Value{Kind: api.Int, N: n} }

func strOf(s string) api.Value { return api.Value{Kind: api.Str, S: s} }

func boolOf(n int) api.Value { return api.Value{Kind: api.Bool, N: n} }

func histOf(h ...int) api.Value {
	v := api.Value{Kind: api.Hist}
	copy(v.H[:], h)
	return v
}

func of(cols []api.Col, rows ...[]api.Value) api.Table { return api.Table{Cols: cols, Rows: rows} }

// ints is a table of Int columns, row by row.
func ints(names string, l ...int) api.Table {
	t := of(colsOf(strings.Fields(names)...))
	for rest := range slices.Chunk(l, len(t.Cols)) {
		var row []api.Value
		for _, n := range rest {
			row = append(row, intOf(n))
		}
		t.Rows = append(t.Rows, row)
	}
	return t
}

// answer is what a call answers, as one thing.
type answer struct {
	t api.Table
	e api.Errno
}

func said(t api.Table, e api.Errno) answer { return answer{t, e} }

func same(a, b answer) bool { return a.e == b.e && table.Same(a.t, b.t) }

func wantTable(t *testing.T, what string, got answer, want api.Table) {
	t.Helper()
	if got.e != api.OK || !table.Same(got.t, want) {
		t.Errorf("%s is %v, want %v", what, got, want)
	}
}

// wantError asks for nothing beside the error, too.
func wantError(t *testing.T, what string, got answer, want api.Errno) {
	t.Helper()
	if got.e != want || got.t.Cols != nil || got.t.Rows != nil {
		t.Errorf("%s is %v, want the error %d alone", what, got, want)
	}
}

func wantCols(t *testing.T, a, b, want []api.Col) {
	t.Helper()
	if got, ok := join.Cols(a, b); !ok || !slices.Equal(got, want) {
		t.Errorf("Cols(%v, %v) is %v, %v; want %v", a, b, got, ok, want)
	}
}

func wantNoCols(t *testing.T, a, b []api.Col) {
	t.Helper()
	if got, ok := join.Cols(a, b); ok || got != nil {
		t.Errorf("Cols(%v, %v) is %v, %v; want none", a, b, got, ok)
	}
}

func TestExamples(t *testing.T) {
	a, b := ints("k n", 1, 5, 2, 6), ints("k m", 1, 7, 1, 8, 3, 9)
	wantTable(t, "Join", said(join.Join(a, b, 9)), ints("k n m", 1, 5, 7, 1, 5, 8))
	wantError(t, "Join with most 1", said(join.Join(a, b, 1)), api.ErrBudget)
	wantError(t, "Join of x and y", said(join.Join(ints("x", 1), ints("y", 1), 9)), api.ErrCols)
}

// The first ones' columns as they stand, and behind them the second ones' others, in their order.
func TestP17_1Order(t *testing.T) {
	wantCols(t, colsOf("k", "n"), colsOf("k", "m"), colsOf("k", "n", "m"))
	wantCols(t, colsOf("n", "k"), colsOf("m", "k"), colsOf("n", "k", "m"))
	wantCols(t, colsOf("z", "k", "a"), colsOf("y", "a", "b", "k", "x"), colsOf("z", "k", "a", "y", "b", "x"))
	wantCols(t, colsOf("k"), colsOf("b", "a", "k"), colsOf("k", "b", "a"))
	wantCols(t, colsOf("b", "a", "k"), colsOf("k"), colsOf("b", "a", "k"))
	wantCols(t, colsOf("k", "n"), colsOf("n", "k"), colsOf("k", "n"))
	wantCols(t, colsOf("k"), colsOf("k"), colsOf("k"))
}

func TestP17_1NoneShared(t *testing.T) {
	wantNoCols(t, colsOf("k", "n"), colsOf("x", "m"))
	wantNoCols(t, colsOf("k"), colsOf("k2", "kk", "K", "", "k "))
	wantNoCols(t, colsOf("k"), nil)
	wantNoCols(t, nil, colsOf("k"))
	wantNoCols(t, nil, nil)
	wantNoCols(t, []api.Col{col("h", api.Hist)}, []api.Col{col("g", api.Hist)})
}

func TestP17_1Kinds(t *testing.T) {
	for kind := api.Int; kind <= api.Hist; kind++ {
		for other := api.Int; other <= api.Hist; other++ {
			a, b := []api.Col{col("n", api.Int), col("k", kind)}, []api.Col{col("k", other), col("m", api.Str)}
			also := append(slices.Clone(b), col("n", api.Int))
			if kind == other && kind != api.Hist {
				wantCols(t, a, b, append(slices.Clone(a), b[1]))
				wantCols(t, a, also, append(slices.Clone(a), b[1]))
				continue
			}
			// That another one is shared, and is the same in both, does not help.
			wantNoCols(t, a, b)
			wantNoCols(t, a, also)
		}
	}
	// A Hist that is not shared may be, in either.
	a, b := []api.Col{col("h", api.Hist), col("k", api.Bool)}, []api.Col{col("k", api.Bool), col("g", api.Hist)}
	wantCols(t, a, b, []api.Col{a[0], a[1], b[1]})
}

// The shared ones count once.
func TestP17_1HowMany(t *testing.T) {
	for shared := 1; shared <= 16; shared++ {
		for first := 0; shared+first <= 17; first++ {
			a := numbered(0, shared+first)
			for second := 0; second <= 17; second++ {
				b := append(numbered(17, second), numbered(0, shared)...)
				if want := append(slices.Clone(a), numbered(17, second)...); len(want) <= 16 {
					wantCols(t, a, b, want)
				} else {
					wantNoCols(t, a, b)
				}
			}
		}
	}
	wantNoCols(t, numbered(0, 17), numbered(0, 17))
	wantNoCols(t, numbered(0, 17), numbered(0, 1))
	wantNoCols(t, numbered(0, 1), numbered(0, 17))
}

// Columns that no table has are taken by the same words.
func TestP17_1AnyColumns(t *testing.T) {
	odd := []api.Col{col("", 0), col("K", 9), col(strings.Repeat("x", 99), -1)}
	wantCols(t, odd, odd[1:2], odd)
	wantCols(t, odd[:1], odd, odd)
	wantCols(t, colsOf("n", "n"), colsOf("n", "m", "m"), colsOf("n", "n", "m", "m"))
	wantNoCols(t, []api.Col{col("n", api.Int), col("n", api.Hist)}, colsOf("n"))
	wantNoCols(t, colsOf("n"), []api.Col{col("n", api.Int), col("n", api.Str)})
	yes := 0
	for seed := range 30000 {
		m := makerOf(seed, true)
		a, b := m.anyCols(), m.anyCols()
		got, ok := join.Cols(a, b)
		want, wantOK := ruleCols(a, b)
		if ok != wantOK || !slices.Equal(got, want) || !ok && got != nil {
			t.Fatalf("seed %d: Cols(%v, %v) is %v, %v; want %v, %v", seed, a, b, got, ok, want, wantOK)
		}
		if ok {
			yes++
		}
	}
	if yes < 2000 || yes > 28000 {
		t.Errorf("%d are true", yes)
	}
}

func TestP17_2Rows(t *testing.T) {
	// A row goes with each of its like, the same ones as often as they are there.
	a, b := ints("k n", 2, 6, 1, 5, 1, 5, 1, 4), ints("m k", 8, 1, 7, 1, 7, 1, 9, 3)
	wantTable(t, "Join", said(join.Join(a, b, 9)), ints("k n m", 1, 4, 7, 1, 4, 7, 1, 4, 8, 1, 5, 7, 1, 5, 7, 1, 5, 7, 1, 5, 7, 1, 5, 8, 1, 5, 8))
	// With nothing behind, as often as there are like ones.
	wantTable(t, "Join of all shared", said(join.Join(a, ints("n k", 5, 1, 5, 1, 6, 2, 5, 2), 9)), ints("k n", 1, 5, 1, 5, 1, 5, 1, 5, 2, 6))
	wantTable(t, "Join with itself", said(join.Join(a, a, 9)), ints("k n", 1, 4, 1, 5, 1, 5, 1, 5, 1, 5, 2, 6))
	wantTable(t, "Join of one column", said(join.Join(ints("k", 3, 1, 2, 1), ints("k", 1, 3, 4), 9)), ints("k", 1, 1, 3))
	// All shared ones must be the same, not some.
	c, d := ints("j k n", 1, 2, 7, 2, 1, 8, 1, 1, 9), ints("m k j", 5, 2, 1, 6, 2, 2, 4, 1, 2)
	wantTable(t, "Join by two", said(join.Join(c, d, 9)), ints("j k n m", 1, 2, 7, 5, 2, 1, 8, 4))
	for _, pair := range [][2]api.Table{
		{a, ints("k m", 5, 1, 6, 1)}, {a, ints("k m")}, {ints("k n"), b}, {ints("k n"), ints("k m")}, {ints("k n", 1, 2), ints("n k", 1, 2)},
	} {
		cols, _ := join.Cols(pair[0].Cols, pair[1].Cols)
		wantTable(t, "Join of rows that do not go together", said(join.Join(pair[0], pair[1], 9)), of(cols))
	}
}

// Texts that make the same bytes, laid end to end, and numbers that differ in one bit, are not the same.
func TestP17_2SameValues(t *testing.T) {
	for _, l := range [][]api.Value{
		{intOf(0), intOf(1), intOf(-1), intOf(math.MinInt), intOf(math.MaxInt), intOf(1 << 8), intOf(1 << 31), intOf(1 << 32), intOf(1<<32 + 1), intOf(1 << 56), intOf(math.MinInt + 1)},
		{strOf(""), strOf("\x00"), strOf("\x00\x00"), strOf("a"), strOf("A"), strOf("a "), strOf("ab"), strOf("\xff"), strOf("\xfe"), strOf("é"), strOf(strings.Repeat("z", 64)), strOf(strings.Repeat("z", 63)), strOf(strings.Repeat("z", 63) + "y")},
		{boolOf(0), boolOf(1)},
	} {
		a, b := of([]api.Col{col("k", l[0].Kind), col("n", api.Int)}), of([]api.Col{col("m", api.Int), col("k", l[0].Kind)})
		var want []int
		for k, v := range l {
			a.Rows = append(a.Rows, []api.Value{v, intOf(k)})
			b.Rows = append(b.Rows, []api.Value{intOf(k), v})
			want = append(want, k)
		}
		got := said(join.Join(a, b, len(l)))
		var ns []int
		for _, row := range got.t.Rows {
			if row[1] != row[2] || row[0] != l[row[1].N] {
				t.Errorf("of %v: the row %v", l, row)
			}
			ns = append(ns, row[1].N)
		}
		slices.Sort(ns)
		if got.e != api.OK || !slices.Equal(ns, want) {
			t.Errorf("of %v: %v", l, got)
		}
	}
	two := []api.Col{col("x", api.Str), col("y", api.Str)}
	texts := []string{"", "a", "b", "ab", "aa", "bc", "abc", "c", "\x01", "\x01a", "a\x01b", "\x02ab", "\x00", "\x00\x00"}
	in := of(two)
	for _, x := range texts {
		for _, y := range texts {
			in.Rows = append(in.Rows, []api.Value{strOf(x), strOf(y)})
		}
	}
	wantTable(t, "Join of two texts", said(join.Join(in, in, len(in.Rows))), table.Canon(in))
}

// Hists, and what else is not shared, come along as they are.
func TestP17_2AllKinds(t *testing.T) {
	a := of([]api.Col{col("h", api.Hist), col("up", api.Bool), col("host", api.Str)},
		[]api.Value{histOf(3), boolOf(1), strOf("b")}, []api.Value{histOf(0, -2), boolOf(0), strOf("b")}, []api.Value{histOf(3), boolOf(1), strOf("a")})
	b := of([]api.Col{col("zone", api.Str), col("host", api.Str), col("g", api.Hist), col("up", api.Bool), col("time", api.Int)},
		[]api.Value{strOf("y"), strOf("b"), histOf(1), boolOf(1), intOf(math.MinInt)},
		[]api.Value{strOf(""), strOf("b"), histOf(7, 8), boolOf(0), intOf(5)},
		[]api.Value{strOf("x"), strOf("b"), histOf(2), boolOf(1), intOf(math.MaxInt)})
	want := of([]api.Col{a.Cols[0], a.Cols[1], a.Cols[2], b.Cols[0], b.Cols[2], b.Cols[4]},
		[]api.Value{histOf(0, -2), boolOf(0), strOf("b"), strOf(""), histOf(7, 8), intOf(5)},
		[]api.Value{histOf(3), boolOf(1), strOf("b"), strOf("x"), histOf(2), intOf(math.MaxInt)},
		[]api.Value{histOf(3), boolOf(1), strOf("b"), strOf("y"), histOf(1), intOf(math.MinInt)})
	wantTable(t, "Join", said(join.Join(a, b, 3)), want)
}

// The rows are in canonical order by all columns, wherever they stood: those of the second behind those of the first.
func TestP17_2Order(t *testing.T) {
	a, b := ints("n k", 9, 1, -3, 2, 9, 2, 0, 1), ints("k m", 2, 5, 1, 7, 2, -5, 1, 6)
	want := ints("n k m", -3, 2, -5, -3, 2, 5, 0, 1, 6, 0, 1, 7, 9, 1, 6, 9, 1, 7, 9, 2, -5, 9, 2, 5)
	for range 4 {
		for range 4 {
			wantTable(t, "Join", said(join.Join(a, b, 8)), want)
			b.Rows = append(b.Rows[1:], b.Rows[0])
		}
		a.Rows = append(a.Rows[1:], a.Rows[0])
	}
}

func TestP17_2Budget(t *testing.T) {
	a, b := ints("k n", 1, 5, 1, 6, 2, 7, 3, 8), ints("k m", 1, 1, 1, 2, 1, 3, 2, 4, 9, 9)
	all := ints("k n m", 1, 5, 1, 1, 5, 2, 1, 5, 3, 1, 6, 1, 1, 6, 2, 1, 6, 3, 2, 7, 4)
	for _, most := range []int{7, 8, 4096, 4097, math.MaxInt} {
		wantTable(t, "Join", said(join.Join(a, b, most)), all)
	}
	for _, most := range []int{6, 5, 1, 0, -1, -7, -8, math.MinInt} {
		wantError(t, "Join", said(join.Join(a, b, most)), api.ErrBudget)
	}
	one := ints("k n", 2, 7)
	wantTable(t, "Join of one row", said(join.Join(one, b, 1)), ints("k n m", 2, 7, 4))
	wantError(t, "Join of one row", said(join.Join(one, b, 0)), api.ErrBudget)
	wantError(t, "Join of one row", said(join.Join(one, b, -1)), api.ErrBudget)
	// Where there would be no rows, no budget is too small.
	for _, most := range []int{0, 1, -1, math.MinInt, math.MaxInt} {
		wantTable(t, "Join of none", said(join.Join(ints("k n", 4, 1), b, most)), ints("k n m"))
		wantTable(t, "Join of none", said(join.Join(ints("k n"), ints("k m"), most)), ints("k n m"))
	}
}

// wrongTables are such that no table may be, with what is told of them.
func wrongTables() map[api.Errno][]api.Table {
	two := colsOf("k", "n")
	return map[api.Errno][]api.Table{
		api.ErrCols: {
			{}, of(colsOf("k", "k")), of(colsOf("k", "N")), of(colsOf("k", "")), of([]api.Col{col("k", api.Int), col("n", 0)}), of([]api.Col{col("k", api.Int), col("n", 5)}), of(append(numbered(0, 16), two[0])),
			of(colsOf("k", "k"), []api.Value{strOf("x")}), of(nil, []api.Value{intOf(1)}),
		},
		api.ErrRows: {
			of(two, nil), of(two, []api.Value{intOf(1)}), of(two, []api.Value{intOf(1), intOf(2), intOf(3)}), of(two, []api.Value{intOf(1), strOf("2")}), of(two, []api.Value{strOf("1"), intOf(2)}),
			of(two, []api.Value{intOf(1), intOf(2)}, []api.Value{intOf(1), {Kind: api.Int, N: 2, S: "x"}}), of(two, []api.Value{{}, intOf(2)}),
			of([]api.Col{col("k", api.Int), col("s", api.Str)}, []api.Value{intOf(1), strOf(strings.Repeat("a", 65))}),
		},
	}
}

// A table that may not be is told ahead of all else, the first one ahead of the second one.
func TestP17_2CheckFirst(t *testing.T) {
	fine := []api.Table{ints("k m", 1, 2), ints("k m"), ints("x y", 1, 2), of([]api.Col{col("k", api.Hist)})}
	for want, l := range wrongTables() {
		for _, wrong := range l {
			for _, most := range []int{9, 0, -1} {
				for _, other := range fine {
					wantError(t, "Join", said(join.Join(wrong, other, most)), want)
					wantError(t, "Join", said(join.Join(other, wrong, most)), want)
				}
				for _, second := range wrongTables() {
					for _, other := range second {
						wantError(t, "Join", said(join.Join(wrong, other, most)), want)
					}
				}
			}
		}
	}
}

// Columns that have no join are told ahead of a budget, with rows and without.
func TestP17_2NoCols(t *testing.T) {
	hist := of([]api.Col{col("k", api.Hist), col("n", api.Int)}, []api.Value{histOf(1), intOf(5)})
	text := of([]api.Col{col("k", api.Str), col("n", api.Int)}, []api.Value{strOf("a"), intOf(5)})
	wide := of(append(colsOf("k"), numbered(0, 15)...))
	for _, pair := range [][2]api.Table{
		{ints("x n", 1, 2), ints("y m", 1, 2)}, {ints("k n", 1, 5), text}, {text, ints("k n", 1, 5)}, {hist, hist}, {hist, ints("k n", 1, 5)}, {ints("k", 1), hist}, {hist, text},
		{wide, ints("k n", 1, 5)}, {ints("k n", 1, 5), wide},
	} {
		for _, most := range []int{9, 0, -1} {
			wantError(t, "Join", said(join.Join(pair[0], pair[1], most)), api.ErrCols)
			wantError(t, "Join of no rows", said(join.Join(of(pair[0].Cols), of(pair[1].Cols), most)), api.ErrCols)
		}
	}
	wantTable(t, "Join of 16 columns", said(join.Join(wide, ints("k", 1), 0)), wide)
	wantTable(t, "Join of 16 columns", said(join.Join(ints("k"), wide, 0)), wide)
}
