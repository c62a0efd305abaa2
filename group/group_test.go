package group_test

import (
	"math"
	"slices"
	"strconv"
	"strings"
	"testing"

	"catchment/api"
	"catchment/check"
	"catchment/group"
	"catchment/table"
)

func col(name string, kind int) api.Col { return api.Col{Name: name, Kind: kind} }

// colsOf are Int columns of these names.
func colsOf(names ...string) []api.Col {
	var l []api.Col
	for _, name := range names {
		l = append(l, col(name, api.Int))
	}
	return l
}

// numbered are so many Int columns: c0, c1, ..
func numbered(many int) []api.Col {
	var l []api.Col
	for k := range many {
		l = append(l, col("c"+strconv.Itoa(k), api.Int))
	}
	return l
}

func intOf(n int) api.Value { return api.Value{Kind: api.Int, N: n} }

func strOf(s string) api.Value { return api.Value{Kind: api.Str, S: s} }

func boolOf(n int) api.Value { return api.Value{Kind: api.Bool, N: n} }

func histOf(h ...int) api.Value {
	v := api.Value{Kind: api.Hist}
	copy(v.H[:], h)
	return v
}

func of(cols []api.Col, rows ...[]api.Value) api.Table { return api.Table{Cols: cols, Rows: rows} }

// ints is a table of Int columns, row by row.
func ints(names string, l ...int) api.Table {
	t := of(colsOf(strings.Fields(names)...))
	for rest := range slices.Chunk(l, len(t.Cols)) {
		var row []api.Value
		for _, n := range rest {
			row = append(row, intOf(n))
		}
		t.Rows = append(t.Rows, row)
	}
	return t
}

// agg is one by its words: count, sum n, min n, max n, mean n, merge h.
func agg(words string) api.Agg {
	kind, column, _ := strings.Cut(words, " ")
	kinds := map[string]int{"count": api.Count, "sum": api.Sum, "min": api.Least, "max": api.Most, "mean": api.Mean, "merge": api.Merge}
	return api.Agg{Kind: kinds[kind], Col: column}
}

func aggs(words ...string) []api.Agg {
	var l []api.Agg
	for _, w := range words {
		l = append(l, agg(w))
	}
	return l
}

func names(l ...string) []string { return l }

// each is one aggregate of each of so many numbered columns.
func each(kind, many int) []api.Agg {
	var l []api.Agg
	for _, c := range numbered(many) {
		l = append(l, api.Agg{Kind: kind, Col: c.Name})
	}
	return l
}

// answer is what a call answers, as one thing.
type answer struct {
	t api.Table
	e api.Errno
}

func said(t api.Table, e api.Errno) answer { return answer{t, e} }

func same(a, b answer) bool { return a.e == b.e && table.Same(a.t, b.t) }

func wantTable(t *testing.T, what string, got answer, want api.Table) {
	t.Helper()
	if got.e != api.OK || !table.Same(got.t, want) {
		t.Errorf("%s is %v, want %v", what, got, want)
	}
}

// wantError asks for nothing beside the error, too.
func wantError(t *testing.T, what string, got answer, want api.Errno) {
	t.Helper()
	if got.e != want || got.t.Cols != nil || got.t.Rows != nil {
		t.Errorf("%s is %v, want the error %d alone", what, got, want)
	}
}

// wantCols asks for the whole ones that check.Types has, too.
func wantCols(t *testing.T, cols []api.Col, names []string, aggs []api.Agg, parts, whole []api.Col) {
	t.Helper()
	gotParts, gotWhole, ok := group.Cols(cols, names, aggs)
	if !ok || !slices.Equal(gotParts, parts) || !slices.Equal(gotWhole, whole) {
		t.Errorf("Cols(%v, %v, %v) is %v, %v, %v; want %v, %v", cols, names, aggs, gotParts, gotWhole, ok, parts, whole)
	}
	if typed, e := typesOf(cols, names, aggs); e != api.OK || !slices.Equal(typed, whole) {
		t.Errorf("of %v, %v, %v check.Types has %v, %d; want %v", cols, names, aggs, typed, e, whole)
	}
}

func wantNoCols(t *testing.T, cols []api.Col, names []string, aggs []api.Agg) {
	t.Helper()
	parts, whole, ok := group.Cols(cols, names, aggs)
	if ok || parts != nil || whole != nil {
		t.Errorf("Cols(%v, %v, %v) is %v, %v, %v; want none", cols, names, aggs, parts, whole, ok)
	}
}

func typesOf(cols []api.Col, names []string, aggs []api.Agg) ([]api.Col, api.Errno) {
	q := api.Query{N: []api.Node{{Kind: api.QInput}, {Kind: api.QGroup, L: []int{0}, Names: names, Aggs: aggs}}}
	l, _, e := check.Types(nil, q, [][]api.Col{cols})
	if e != api.OK {
		return nil, e
	}
	return l[1], e
}

// example is the chapter's.
func example() api.Table {
	return of([]api.Col{col("k", api.Str), col("n", api.Int)},
		[]api.Value{strOf("a"), intOf(1)}, []api.Value{strOf("a"), intOf(4)}, []api.Value{strOf("b"), intOf(7)})
}

func TestExamples(t *testing.T) {
	k := example().Cols[0]
	wantTable(t, "Group", said(group.Group(example(), names("k"), aggs("count", "sum n", "mean n"))),
		of(append([]api.Col{k}, colsOf("count", "sum_n", "mean_n")...),
			[]api.Value{strOf("a"), intOf(2), intOf(5), intOf(2)}, []api.Value{strOf("b"), intOf(1), intOf(7), intOf(7)}))
	wantTable(t, "Partial", said(group.Partial(example(), names("k"), aggs("mean n"))),
		of(append([]api.Col{k}, colsOf("p#0", "p#0#n")...),
			[]api.Value{strOf("a"), intOf(5), intOf(2)}, []api.Value{strOf("b"), intOf(7), intOf(1)}))
	wantTable(t, "Group without names", said(group.Group(example(), nil, aggs("max n"))), ints("max_n", 7))
	wantTable(t, "Group of no rows", said(group.Group(of(example().Cols), nil, aggs("max n"))), ints("max_n"))
	wantTable(t, "Group of no rows", said(group.Group(of(example().Cols), names("k"), aggs("count"))), of([]api.Col{k, col("count", api.Int)}))
	wantError(t, "Group by x", said(group.Group(example(), names("x"), aggs("count"))), api.ErrArg)
}

// wide are columns of each kind.
func wide() []api.Col {
	return []api.Col{col("time", api.Int), col("host", api.Str), col("n", api.Int), col("up", api.Bool), col("h", api.Hist)}
}

// Each aggregate has its kind, its number, and a mean one column more, which is not counted.
func TestP18_1Parts(t *testing.T) {
	wantCols(t, wide(), names("up", "host"), aggs("count", "sum n", "min host", "max up", "mean n", "merge h", "min time"),
		[]api.Col{col("up", api.Bool), col("host", api.Str), col("p#0", api.Int), col("p#1", api.Int), col("p#2", api.Str), col("p#3", api.Bool), col("p#4", api.Int), col("p#4#n", api.Int), col("p#5", api.Hist), col("p#6", api.Int)},
		[]api.Col{col("up", api.Bool), col("host", api.Str), col("count", api.Int), col("sum_n", api.Int), col("min_host", api.Str), col("max_up", api.Bool), col("mean_n", api.Int), col("merge_h", api.Hist), col("min_time", api.Int)})
	wantCols(t, wide(), nil, aggs("mean n", "mean time", "count"), colsOf("p#0", "p#0#n", "p#1", "p#1#n", "p#2"), colsOf("mean_n", "mean_time", "count"))
	wantCols(t, wide(), nil, aggs("count"), colsOf("p#0"), colsOf("count"))
	wantCols(t, wide(), names("n"), aggs("sum n", "max n"), colsOf("n", "p#0", "p#1"), colsOf("n", "sum_n", "max_n"))
	wantCols(t, wide(), names("host", "n", "time", "up"), aggs("count"),
		[]api.Col{col("host", api.Str), col("n", api.Int), col("time", api.Int), col("up", api.Bool), col("p#0", api.Int)},
		[]api.Col{col("host", api.Str), col("n", api.Int), col("time", api.Int), col("up", api.Bool), col("count", api.Int)})
}

func TestP18_1Kinds(t *testing.T) {
	for kind := api.Int; kind <= api.Hist; kind++ {
		cols := []api.Col{col("x", kind), col("y", api.Int)}
		for k, words := range []string{"sum x", "mean x", "min x", "max x", "merge x"} {
			may := kind == api.Int && k < 2 || kind != api.Hist && (k == 2 || k == 3) || kind == api.Hist && k == 4
			if !may {
				wantNoCols(t, cols, nil, aggs(words))
				continue
			}
			parts := []api.Col{col("p#0", kind)}
			if k == 1 {
				parts = colsOf("p#0", "p#0#n")
			}
			wantCols(t, cols, nil, aggs(words), parts, []api.Col{col(strings.ReplaceAll(words, " ", "_"), kind)})
		}
		if kind == api.Hist {
			wantNoCols(t, cols, names("x"), aggs("count"))
			continue
		}
		wantCols(t, cols, names("x"), aggs("count"), []api.Col{col("x", kind), col("p#0", api.Int)}, []api.Col{col("x", kind), col("count", api.Int)})
	}
}

// What check.Types has no columns for.
func TestP18_1NotTyped(t *testing.T) {
	for _, x := range []struct {
		names []string
		aggs  []api.Agg
	}{
		{names("host"), nil}, {nil, nil}, {names("x"), aggs("count")}, {names("host", "host"), aggs("count")}, {names("host", "n", "host"), aggs("count")},
		{names("h"), aggs("count")}, {names(""), aggs("count")}, {names("HOST"), aggs("count")}, {nil, aggs("sum x")}, {nil, aggs("sum")}, {nil, aggs("count n")},
		{nil, aggs("count", "count")}, {nil, aggs("sum n", "sum n")}, {nil, []api.Agg{{}}}, {nil, []api.Agg{{Kind: 7, Col: "n"}}}, {nil, []api.Agg{{Kind: -1}}}, {nil, []api.Agg{{Kind: 7}}},
		{nil, aggs("count", "sum x")}, {nil, aggs("sum host")}, {nil, aggs("mean up")}, {nil, aggs("merge n")}, {nil, aggs("max h")}, {nil, aggs("min h")},
	} {
		wantNoCols(t, wide(), x.names, x.aggs)
	}
	// The whole ones need names that may be, and that no other has.
	long := strings.Repeat("n", 19)
	wantCols(t, colsOf(long), nil, aggs("mean "+long), colsOf("p#0", "p#0#n"), colsOf("mean_"+long))
	wantNoCols(t, colsOf(long+"n"), nil, aggs("mean "+long+"n"))
	wantCols(t, colsOf(long+"n"), nil, aggs("max "+long+"n"), colsOf("p#0"), colsOf("max_"+long+"n"))
	wantNoCols(t, colsOf("count", "n"), names("count"), aggs("count"))
	wantNoCols(t, colsOf("sum_n", "n"), names("sum_n"), aggs("sum n"))
	wantCols(t, colsOf("sum_n", "n"), names("sum_n"), aggs("max n"), colsOf("sum_n", "p#0"), colsOf("sum_n", "max_n"))
}

// Columns that no table may have, even where the others would do.
func TestP18_1NoTablesColumns(t *testing.T) {
	for _, cols := range [][]api.Col{
		nil, {}, colsOf("n", "n"), colsOf("n", "k", "k"), colsOf("n", ""), colsOf("n", "K"), colsOf("n", "1"), colsOf("n", strings.Repeat("k", 25)),
		{col("n", api.Int), col("k", 0)}, {col("n", api.Int), col("k", 5)}, {col("n", api.Int), col("k", -1)}, append(numbered(16), col("n", api.Int)),
	} {
		wantNoCols(t, cols, nil, aggs("count"))
		wantNoCols(t, cols, nil, aggs("sum n"))
		wantNoCols(t, cols, names("n"), aggs("count"))
	}
	wantCols(t, append(numbered(15), col("n", api.Int)), names("n"), aggs("count"), colsOf("n", "p#0"), colsOf("n", "count"))
}

// Parts are as many as columns may be, where whole ones are fewer; and none has the name of another.
func TestP18_1PartsMayBe(t *testing.T) {
	for many := range 17 {
		for means := range many + 1 {
			// So many names, and behind them means of so many columns.
			all := numbered(16)
			var by []string
			for _, c := range all[:many-means] {
				by = append(by, c.Name)
			}
			l := append(each(api.Mean, means), agg("count"))
			whole := len(by) + means + 1
			_, got, ok := group.Cols(all, by, l)
			if want := whole+means <= 16; ok != want || ok && len(got) != whole {
				t.Errorf("Cols by %d names of %d means and a count is %v, %v", len(by), means, got, ok)
			}
		}
	}
	wantNoCols(t, colsOf("p#0", "n"), names("p#0"), aggs("count"))
	wantNoCols(t, colsOf("p#1", "n"), names("p#1"), aggs("count", "sum n"))
	wantNoCols(t, colsOf("p#0#n", "n"), names("p#0#n"), aggs("mean n"))
	wantNoCols(t, colsOf("p#1#n", "n"), names("p#1#n"), aggs("count", "mean n"))
	wantCols(t, colsOf("p#1", "n"), names("p#1"), aggs("count"), colsOf("p#1", "p#0"), colsOf("p#1", "count"))
	wantCols(t, colsOf("p#0#n", "n"), names("p#0#n"), aggs("sum n"), colsOf("p#0#n", "p#0"), colsOf("p#0#n", "sum_n"))
	wantCols(t, colsOf("p#1#n", "n"), names("p#1#n"), aggs("mean n"), colsOf("p#1#n", "p#0", "p#0#n"), colsOf("p#1#n", "mean_n"))
	wantCols(t, colsOf("p#0", "p#0#n"), nil, aggs("sum p#0", "max p#0#n"), colsOf("p#0", "p#1"), colsOf("sum_p#0", "max_p#0#n"))
}

func wideTable() api.Table {
	return of(wide(),
		[]api.Value{intOf(3), strOf("b"), intOf(-5), boolOf(1), histOf(1, 2)},
		[]api.Value{intOf(1), strOf("a"), intOf(7), boolOf(0), histOf(0, 0, 3)},
		[]api.Value{intOf(2), strOf("b"), intOf(-2), boolOf(0), histOf(4, -1)},
		[]api.Value{intOf(9), strOf("b"), intOf(-5), boolOf(1), histOf(0, 0, 0, 0, 0, 0, 0, 8)},
		[]api.Value{intOf(1), strOf(""), intOf(0), boolOf(1), histOf()})
}

func TestP18_2Aggregates(t *testing.T) {
	all := aggs("count", "sum n", "min n", "max n", "mean n", "merge h", "min up", "max up", "min time", "max host")
	cols := append(colsOf("p#0", "p#1", "p#2", "p#3", "p#4", "p#4#n"), col("p#5", api.Hist), col("p#6", api.Bool), col("p#7", api.Bool), col("p#8", api.Int), col("p#9", api.Str))
	wantTable(t, "Partial by host", said(group.Partial(wideTable(), names("host"), all)), of(append([]api.Col{col("host", api.Str)}, cols...),
		[]api.Value{strOf(""), intOf(1), intOf(0), intOf(0), intOf(0), intOf(0), intOf(1), histOf(), boolOf(1), boolOf(1), intOf(1), strOf("")},
		[]api.Value{strOf("a"), intOf(1), intOf(7), intOf(7), intOf(7), intOf(7), intOf(1), histOf(0, 0, 3), boolOf(0), boolOf(0), intOf(1), strOf("a")},
		[]api.Value{strOf("b"), intOf(3), intOf(-12), intOf(-5), intOf(-2), intOf(-12), intOf(3), histOf(5, 1, 0, 0, 0, 0, 0, 8), boolOf(0), boolOf(1), intOf(2), strOf("b")}))
	wantTable(t, "Partial of all", said(group.Partial(wideTable(), nil, all)), of(cols,
		[]api.Value{intOf(5), intOf(-5), intOf(-5), intOf(7), intOf(-5), intOf(5), histOf(5, 1, 3, 0, 0, 0, 0, 8), boolOf(0), boolOf(1), intOf(1), strOf("b")}))
	// Where the one aggregate is the last, it has all of its rows, too.
	wantTable(t, "Partial by up", said(group.Partial(wideTable(), names("up"), aggs("merge h"))), of([]api.Col{col("up", api.Bool), col("p#0", api.Hist)},
		[]api.Value{boolOf(0), histOf(4, -1, 3)}, []api.Value{boolOf(1), histOf(1, 2, 0, 0, 0, 0, 0, 8)}))
}

func TestP18_2Wraps(t *testing.T) {
	in := ints("k n", 1, math.MaxInt, 1, 1, 2, math.MinInt, 2, math.MinInt, 3, math.MaxInt, 3, math.MaxInt)
	wantTable(t, "Partial", said(group.Partial(in, names("k"), aggs("sum n", "mean n", "min n", "max n"))),
		ints("k p#0 p#1 p#1#n p#2 p#3", 1, math.MinInt, math.MinInt, 2, 1, math.MaxInt, 2, 0, 0, 2, math.MinInt, math.MinInt, 3, -2, -2, 2, math.MaxInt, math.MaxInt))
	h := of([]api.Col{col("h", api.Hist)}, []api.Value{histOf(math.MaxInt, 1, math.MinInt)}, []api.Value{histOf(1, 2, math.MinInt)})
	wantTable(t, "Partial of Hists", said(group.Partial(h, nil, aggs("merge h"))), of([]api.Col{col("p#0", api.Hist)}, []api.Value{histOf(math.MinInt, 3)}))
}

// Least and most go by the order of values: of texts byte by byte, of numbers with those below 0 ahead.
func TestP18_2Order(t *testing.T) {
	for _, l := range [][]api.Value{
		{intOf(math.MinInt), intOf(-10), intOf(-9), intOf(0), intOf(9), intOf(10), intOf(1 << 40), intOf(math.MaxInt)},
		{strOf(""), strOf("\x00"), strOf("10"), strOf("9"), strOf("B"), strOf("a"), strOf("a\x00"), strOf("aa"), strOf("b"), strOf("\xff")},
		{boolOf(0), boolOf(1)},
	} {
		cols := []api.Col{col("x", l[0].Kind)}
		want := []api.Col{col("p#0", l[0].Kind), col("p#1", l[0].Kind)}
		for i, a := range l {
			for j, b := range l {
				in := of(cols, []api.Value{b}, []api.Value{a}, []api.Value{b})
				wantTable(t, "Partial", said(group.Partial(in, nil, aggs("min x", "max x"))), of(want, []api.Value{l[min(i, j)], l[max(i, j)]}))
			}
		}
	}
}

// Rows of one group are those with all values of names the same, wherever they stand; not those whose texts, laid end to end, are.
func TestP18_2Groups(t *testing.T) {
	in := ints("j k n", 1, 2, 5, 2, 1, 6, 1, 2, 7, 1, 1, 8, 2, 1, 9)
	wantTable(t, "Partial by j and k", said(group.Partial(in, names("j", "k"), aggs("sum n"))), ints("j k p#0", 1, 1, 8, 1, 2, 12, 2, 1, 15))
	wantTable(t, "Partial by k and j", said(group.Partial(in, names("k", "j"), aggs("sum n"))), ints("k j p#0", 1, 1, 8, 1, 2, 15, 2, 1, 12))
	wantTable(t, "Partial by n", said(group.Partial(in, names("n"), aggs("count"))), ints("n p#0", 5, 1, 6, 1, 7, 1, 8, 1, 9, 1))
	wantTable(t, "Partial by j", said(group.Partial(in, names("j"), aggs("count", "max k"))), ints("j p#0 p#1", 1, 3, 2, 2, 2, 1))
	two := []api.Col{col("x", api.Str), col("y", api.Str)}
	texts := []string{"", " ", "\"", "\" \"", "\\", "\\\"", "\\\" ", "\" ", " \"", "a", "b", "ab", "a\"b", "a\" \"b", "aa", "A", "\x00", "\x00\x00", "\xff", "1", "1 ", "true", "é", strings.Repeat("z", 64), strings.Repeat("z", 63), strings.Repeat("\"", 64), strings.Repeat("\\", 64)}
	all, want := of(two), of(append(slices.Clone(two), col("p#0", api.Int)))
	for _, x := range texts {
		for _, y := range texts {
			all.Rows = append(all.Rows, []api.Value{strOf(x), strOf(y)})
			want.Rows = append(want.Rows, []api.Value{strOf(x), strOf(y), intOf(2)})
		}
	}
	all.Rows = append(all.Rows, cloneTable(all).Rows...)
	wantTable(t, "Partial by two texts", said(group.Partial(all, names("x", "y"), aggs("count"))), table.Canon(want))
	mixed := of([]api.Col{col("x", api.Int), col("y", api.Bool), col("z", api.Int)})
	for _, x := range []int{math.MinInt, -1, 0, 1, 11, 256, 1 << 32, math.MaxInt} {
		for _, z := range []int{math.MinInt, -1, 0, 1, 11, 256, 1 << 32, math.MaxInt} {
			mixed.Rows = append(mixed.Rows, []api.Value{intOf(x), boolOf(0), intOf(z)}, []api.Value{intOf(x), boolOf(1), intOf(z)})
		}
	}
	for _, by := range [][]string{names("x", "y", "z"), names("x", "z", "y"), names("y", "z", "x")} {
		if got := said(group.Partial(mixed, by, aggs("count"))); got.e != api.OK || len(got.t.Rows) != 128 {
			t.Errorf("of 128 unlike rows there are by %v %d groups, %d", by, len(got.t.Rows), got.e)
		}
	}
}

// wrongTables are such that no table may be, with what is told of them.
func wrongTables() map[api.Errno][]api.Table {
	two := colsOf("k", "n")
	return map[api.Errno][]api.Table{
		api.ErrCols: {
			{}, of(colsOf("k", "k")), of(colsOf("k", "N")), of(colsOf("k", "")), of([]api.Col{col("k", api.Int), col("n", 0)}), of([]api.Col{col("k", api.Int), col("n", 5)}), of(append(numbered(16), two[0])),
			of(colsOf("k", "k"), []api.Value{strOf("x")}), of(nil, []api.Value{intOf(1)}), of(colsOf("p#0", "p#0"), nil),
		},
		api.ErrRows: {
			of(two, nil), of(two, []api.Value{intOf(1)}), of(two, []api.Value{intOf(1), intOf(2), intOf(3)}), of(two, []api.Value{intOf(1), strOf("2")}), of(two, []api.Value{strOf("1"), intOf(2)}),
			of(two, []api.Value{intOf(1), intOf(2)}, []api.Value{intOf(1), {Kind: api.Int, N: 2, S: "x"}}), of(two, []api.Value{{}, intOf(2)}),
			of([]api.Col{col("k", api.Int), col("s", api.Str)}, []api.Value{intOf(1), strOf(strings.Repeat("a", 65))}),
			of(colsOf("p#0"), nil), of(colsOf("p#0", "p#0#n"), []api.Value{intOf(1)}), of(colsOf("k", "p#0"), []api.Value{intOf(1), strOf("a")}), of(colsOf("k", "p#0"), []api.Value{intOf(1), intOf(2)}, []api.Value{}),
		},
	}
}

// call is one of those that take a table.
type call func(api.Table, []string, []api.Agg) (api.Table, api.Errno)

func calls() map[string]call {
	return map[string]call{"Partial": group.Partial, "Merge": group.Merge, "Finish": group.Finish, "Group": group.Group}
}

// A table that may not be is told ahead of all else.
func TestP18_2CheckFirst(t *testing.T) {
	for want, l := range wrongTables() {
		for _, wrong := range l {
			for _, by := range [][]string{nil, names("k"), names("x"), names("k", "k")} {
				for _, of := range [][]api.Agg{aggs("count"), aggs("sum n"), aggs("mean n"), aggs("count n"), nil} {
					for name, call := range calls() {
						wantError(t, name, said(call(wrong, by, of)), want)
					}
				}
			}
		}
	}
}

func TestP18_2NoCols(t *testing.T) {
	for _, in := range []api.Table{wideTable(), of(wide())} {
		for _, name := range []string{"Partial", "Group"} {
			call := calls()[name]
			for _, x := range []struct {
				names []string
				aggs  []api.Agg
			}{
				{names("host"), nil}, {names("x"), aggs("count")}, {names("h"), aggs("count")}, {names("host", "host"), aggs("count")}, {nil, aggs("sum host")}, {nil, aggs("max h")}, {nil, aggs("merge n")}, {nil, aggs("mean x")}, {nil, aggs("count n")}, {nil, aggs("count", "count")}, {nil, []api.Agg{{Kind: 7, Col: "n"}}},
			} {
				wantError(t, name, said(call(in, x.names, x.aggs)), api.ErrArg)
			}
		}
	}
	nine := of(numbered(9))
	for name, call := range map[string]call{"Partial": group.Partial, "Group": group.Group} {
		wantError(t, name+" of nine means", said(call(nine, nil, each(api.Mean, 9))), api.ErrArg)
		wantError(t, name+" by p#0", said(call(ints("p#0 n", 1, 2), names("p#0"), aggs("sum n"))), api.ErrArg)
		wantError(t, name+" by p#0#n", said(call(ints("p#0#n n", 1, 2), names("p#0#n"), aggs("mean n"))), api.ErrArg)
	}
	if got := said(group.Partial(nine, nil, each(api.Mean, 8))); got.e != api.OK || len(got.t.Cols) != 16 {
		t.Errorf("Partial of eight means is %v", got)
	}
}

func TestP18_3Merge(t *testing.T) {
	all := aggs("count", "sum n", "min n", "max n", "mean n", "merge h")
	cols := append(colsOf("k", "p#0", "p#1", "p#2", "p#3", "p#4", "p#4#n"), col("p#5", api.Hist))
	row := func(h api.Value, l ...int) []api.Value {
		var out []api.Value
		for _, n := range l {
			out = append(out, intOf(n))
		}
		return append(out, h)
	}
	in := of(cols, row(histOf(1), 2, 3, 10, 4, 6, 10, 3), row(histOf(5), 1, 1, 20, 20, 20, 20, 1), row(histOf(0, 2), 2, -4, math.MaxInt, 3, 7, math.MaxInt, 5), row(histOf(-3, 1), 2, 0, 1, 9, -9, 1, 0))
	wantTable(t, "Merge", said(group.Merge(in, names("k"), all)), of(cols, row(histOf(5), 1, 1, 20, 20, 20, 20, 1), row(histOf(-2, 3), 2, -1, math.MinInt+10, 3, 7, math.MinInt+10, 8)))
	wantTable(t, "Merge of one row", said(group.Merge(of(cols, in.Rows[2]), names("k"), all)), of(cols, in.Rows[2]))
	wantTable(t, "Merge of no rows", said(group.Merge(of(cols), names("k"), all)), of(cols))
	// Without names all rows are one.
	wantTable(t, "Merge of all", said(group.Merge(ints("p#0 p#1", 1, 5, 2, -6, 3, 7, 3, 7), nil, aggs("count", "min n"))), ints("p#0 p#1", 9, -6))
	texts := []api.Col{col("host", api.Str), col("p#0", api.Str), col("p#1", api.Bool)}
	wantTable(t, "Merge of texts", said(group.Merge(of(texts,
		[]api.Value{strOf("b"), strOf("x"), boolOf(0)}, []api.Value{strOf("a"), strOf("9"), boolOf(1)}, []api.Value{strOf("a"), strOf("10"), boolOf(0)}), names("host"), aggs("min zone", "max up"))),
		of(texts, []api.Value{strOf("a"), strOf("10"), boolOf(1)}, []api.Value{strOf("b"), strOf("x"), boolOf(0)}))
}

// parted are tables of no rows that are of parts, each with the names and aggregates: of columns of any kind that goes with them.
func TestP18_3ColumnsThatMayBe(t *testing.T) {
	long := strings.Repeat("n", 20)
	for _, x := range []struct {
		cols  []api.Col
		names []string
		aggs  []api.Agg
	}{
		{colsOf("p#0"), nil, aggs("count")},
		{colsOf("p#0", "p#0#n"), nil, aggs("mean anything")},
		{colsOf("k", "p#0"), names("k"), aggs("count")},
		{colsOf("any", "p#0"), names("any"), aggs("count")},
		{[]api.Col{col("k", api.Str), col("p#0", api.Int)}, names("k"), aggs("count")},
		{[]api.Col{col("k", api.Bool), col("j", api.Str), col("p#0", api.Hist)}, names("k", "j"), aggs("merge any")},
		{[]api.Col{col("p#0", api.Str), col("p#1", api.Bool), col("p#2", api.Int)}, nil, aggs("min x", "max y", "min z")},
		{[]api.Col{col("p#0", api.Str), col("p#1", api.Str)}, nil, aggs("min x", "max x")},
		{[]api.Col{col("x", api.Str), col("p#0", api.Str), col("p#1", api.Str)}, names("x"), aggs("min x", "max x")},
		{colsOf("x", "p#0", "p#1", "p#2", "p#2#n"), names("x"), aggs("min x", "sum x", "mean x")},
		{colsOf("p#0"), nil, aggs("max " + long)},
		{colsOf("p#0"), nil, aggs("max p#0")},
		{colsOf("p#1", "p#0"), names("p#1"), aggs("max p#1")},
		{append(colsOf("p#0", "p#0#n"), col("p#1", api.Hist), col("p#2", api.Int), col("p#2#n", api.Int)), nil, aggs("mean n", "merge h", "mean m")},
	} {
		in := of(x.cols)
		wantTable(t, "Merge", said(group.Merge(in, x.names, x.aggs)), in)
		if got := said(group.Finish(in, x.names, x.aggs)); got.e != api.OK || len(got.t.Cols) != len(x.names)+len(x.aggs) {
			t.Errorf("Finish of %v, by %v of %v, is %v", in, x.names, x.aggs, got)
		}
	}
	sixteen := of(colsOf("p#0", "p#0#n", "p#1", "p#1#n", "p#2", "p#2#n", "p#3", "p#3#n", "p#4", "p#4#n", "p#5", "p#5#n", "p#6", "p#6#n", "p#7", "p#7#n"))
	wantTable(t, "Merge of 16 columns", said(group.Merge(sixteen, nil, each(api.Mean, 8))), sixteen)
}

// A table that there are no columns for: by its own, by what the aggregates ask of one column together, or by the names that they would have.
func TestP18_3NoColumns(t *testing.T) {
	long := strings.Repeat("n", 21)
	for _, x := range []struct {
		cols  []api.Col
		names []string
		aggs  []api.Agg
	}{
		// Other names, another number of columns, another order.
		{colsOf("p#1"), nil, aggs("count")}, {colsOf("count"), nil, aggs("count")}, {colsOf("p#0", "p#1"), nil, aggs("count")}, {colsOf("p#0"), nil, aggs("mean n")}, {colsOf("p#0", "p#0#n"), nil, aggs("sum n")},
		{colsOf("p#0"), nil, aggs("count", "sum n")}, {colsOf("k", "p#0"), nil, aggs("count")}, {colsOf("p#0"), names("k"), aggs("count")}, {colsOf("j", "p#0"), names("k"), aggs("count")}, {colsOf("k", "j", "p#0"), names("j", "k"), aggs("count")},
		{colsOf("p#0", "k"), names("k"), aggs("count")}, {colsOf("p#0#n", "p#0"), nil, aggs("mean n")}, {colsOf("p#0", "p#1"), nil, aggs("mean n")}, {colsOf("p#1", "p#0"), nil, aggs("count", "sum n")}, {colsOf("p#0", "p#1", "p#0#n"), nil, aggs("mean n", "count")},
		{colsOf("p#0", "p#0#n", "p#2"), nil, aggs("mean n", "count")}, {colsOf("p#00"), nil, aggs("count")}, {colsOf("k", "n"), names("k"), aggs("sum n")},
		// Other kinds.
		{[]api.Col{col("p#0", api.Str)}, nil, aggs("count")}, {[]api.Col{col("p#0", api.Hist)}, nil, aggs("sum n")}, {[]api.Col{col("p#0", api.Bool), col("p#0#n", api.Int)}, nil, aggs("mean n")}, {[]api.Col{col("p#0", api.Int), col("p#0#n", api.Str)}, nil, aggs("mean n")},
		{[]api.Col{col("p#0", api.Hist)}, nil, aggs("max h")}, {[]api.Col{col("p#0", api.Hist)}, nil, aggs("min h")}, {colsOf("p#0"), nil, aggs("merge h")}, {[]api.Col{col("k", api.Hist), col("p#0", api.Int)}, names("k"), aggs("count")},
		// One column of two kinds.
		{[]api.Col{col("p#0", api.Int), col("p#1", api.Str)}, nil, aggs("min x", "max x")}, {[]api.Col{col("p#0", api.Str), col("p#1", api.Int)}, nil, aggs("min x", "sum x")}, {[]api.Col{col("p#0", api.Int), col("p#1", api.Bool)}, nil, aggs("sum x", "max x")},
		{[]api.Col{col("p#0", api.Int), col("p#1", api.Hist)}, nil, aggs("sum x", "merge x")}, {[]api.Col{col("x", api.Str), col("p#0", api.Int)}, names("x"), aggs("max x")}, {[]api.Col{col("x", api.Int), col("p#0", api.Str)}, names("x"), aggs("max x")},
		{[]api.Col{col("x", api.Str), col("p#0", api.Int)}, names("x"), aggs("sum x")}, {[]api.Col{col("x", api.Str), col("p#0", api.Hist)}, names("x"), aggs("merge x")}, {[]api.Col{col("p#0", api.Str), col("p#1", api.Int), col("p#1#n", api.Int)}, nil, aggs("max x", "mean x")},
		// What no columns have.
		{colsOf("p#0"), nil, nil}, {colsOf("k"), names("k"), nil}, {colsOf("k", "p#0"), names("k"), nil}, {colsOf("p#0"), nil, aggs("count n")}, {colsOf("p#0"), nil, aggs("sum")}, {colsOf("p#0"), nil, aggs("sum N")}, {colsOf("p#0"), nil, []api.Agg{{Kind: 7, Col: "n"}}}, {colsOf("p#0"), nil, []api.Agg{{}}},
		{colsOf("p#0", "p#1"), nil, aggs("count", "count")}, {colsOf("p#0", "p#1"), nil, aggs("sum n", "sum n")}, {colsOf("k", "p#0"), names("k", "k"), aggs("count")}, {colsOf("count", "p#0"), names("count"), aggs("count")}, {colsOf("max_n", "p#0"), names("max_n"), aggs("max n")},
		{colsOf("p#0"), nil, aggs("max " + long)}, {colsOf("p#0", "p#1"), names("p#0"), aggs("count")}, {colsOf("p#0", "p#0#n"), names("p#0"), aggs("count")}, {colsOf("p#0"), names("p#0"), aggs("count")}, {colsOf("k", "p#0"), names("k", ""), aggs("count")},
	} {
		for _, in := range []api.Table{of(x.cols), of(x.cols, zeros(x.cols))} {
			wantError(t, "Merge", said(group.Merge(in, x.names, x.aggs)), api.ErrArg)
			wantError(t, "Finish", said(group.Finish(in, x.names, x.aggs)), api.ErrArg)
		}
	}
}

// zeros is a row that fits columns.
func zeros(cols []api.Col) []api.Value {
	var row []api.Value
	for _, c := range cols {
		row = append(row, api.Value{Kind: c.Kind})
	}
	return row
}

func TestP18_4Finish(t *testing.T) {
	all := aggs("mean n", "count", "merge h", "mean m", "max host")
	in := of([]api.Col{col("k", api.Int), col("p#0", api.Int), col("p#0#n", api.Int), col("p#1", api.Int), col("p#2", api.Hist), col("p#3", api.Int), col("p#3#n", api.Int), col("p#4", api.Str)},
		[]api.Value{intOf(1), intOf(7), intOf(2), intOf(9), histOf(1, 2), intOf(-7), intOf(2), strOf("x")},
		[]api.Value{intOf(2), intOf(8), intOf(0), intOf(0), histOf(), intOf(0), intOf(5), strOf("")})
	want := of([]api.Col{col("k", api.Int), col("mean_n", api.Int), col("count", api.Int), col("merge_h", api.Hist), col("mean_m", api.Int), col("max_host", api.Str)},
		[]api.Value{intOf(1), intOf(3), intOf(9), histOf(1, 2), intOf(-3), strOf("x")},
		[]api.Value{intOf(2), intOf(0), intOf(0), histOf(), intOf(0), strOf("")})
	wantTable(t, "Finish", said(group.Finish(in, names("k"), all)), want)
	wantTable(t, "Finish of no rows", said(group.Finish(of(in.Cols), names("k"), all)), of(want.Cols))
	for i, a := range all {
		if want.Cols[i+1].Name != check.Name(a) {
			t.Errorf("the aggregate %d is called %s", i, check.Name(a))
		}
	}
}

// A mean goes towards 0, whatever the signs; and is 0, where there is no number to divide by.
func TestP18_4Means(t *testing.T) {
	for _, x := range [][3]int{
		{7, 2, 3}, {-7, 2, -3}, {7, -2, -3}, {-7, -2, 3}, {1, 2, 0}, {-1, 2, 0}, {0, 5, 0}, {6, 3, 2}, {-6, 3, -2}, {5, 0, 0}, {-5, 0, 0}, {0, 0, 0}, {math.MinInt, 0, 0}, {math.MaxInt, 0, 0},
		{math.MaxInt, 1, math.MaxInt}, {math.MinInt, 1, math.MinInt}, {math.MinInt, 2, math.MinInt / 2}, {math.MaxInt, -1, -math.MaxInt}, {math.MinInt, math.MinInt, 1}, {math.MinInt, math.MaxInt, -1}, {math.MaxInt, math.MinInt, 0},
		// Beyond what there is: the sum of so many times its other side wraps around, too.
		{math.MinInt, -1, math.MinInt},
	} {
		wantTable(t, "Finish", said(group.Finish(ints("p#0 p#0#n", x[0], x[1]), nil, aggs("mean n"))), ints("mean_n", x[2]))
	}
	wantTable(t, "Group", said(group.Group(ints("n", -7, 0), nil, aggs("mean n"))), ints("mean_n", -3))
	wantTable(t, "Group", said(group.Group(ints("n", math.MaxInt, 1), nil, aggs("mean n"))), ints("mean_n", math.MinInt/2))
}

// Finish lays nothing together, and leaves rows where they stand.
func TestP18_4RowByRow(t *testing.T) {
	in := ints("k p#0 p#1 p#1#n", 2, 1, 9, 2, 1, 5, 8, 4, 2, 1, 9, 2, 1, 5, 3, 1)
	wantTable(t, "Finish", said(group.Finish(in, names("k"), aggs("count", "mean n"))), ints("k count mean_n", 2, 1, 4, 1, 5, 2, 2, 1, 4, 1, 5, 3))
}

func TestP18_4Group(t *testing.T) {
	wantTable(t, "Group by up", said(group.Group(wideTable(), names("up"), aggs("mean n", "merge h", "min host", "count", "max time"))),
		of([]api.Col{col("up", api.Bool), col("mean_n", api.Int), col("merge_h", api.Hist), col("min_host", api.Str), col("count", api.Int), col("max_time", api.Int)},
			[]api.Value{boolOf(0), intOf(2), histOf(4, -1, 3), strOf("a"), intOf(2), intOf(2)},
			[]api.Value{boolOf(1), intOf(-3), histOf(1, 2, 0, 0, 0, 0, 0, 8), strOf(""), intOf(3), intOf(9)}))
	wantTable(t, "Group by all", said(group.Group(ints("k n", 2, 1, 1, 5, 2, 1, 1, 4), names("n", "k"), aggs("count"))), ints("n k count", 1, 2, 2, 4, 1, 1, 5, 1, 1))
	wantTable(t, "Group of one row", said(group.Group(ints("k n", 2, 1), nil, aggs("sum k", "mean n", "min n"))), ints("sum_k mean_n min_n", 2, 1, 1))
}
