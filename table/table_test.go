package table_test

import (
	"math"
	"reflect"
	"slices"
	"strconv"
	"strings"
	"testing"

	"catchment/api"
	"catchment/table"
	"catchment/value"
)

const longestName = "abcdefghijklmnopqrstuvwx"

type row = []api.Value

func i(n int) api.Value    { return value.OfInt(n) }
func s(x string) api.Value { return value.OfStr(x) }
func b(x bool) api.Value   { return value.OfBool(x) }

// kn are the columns of the chapter's examples.
func kn() []api.Col { return []api.Col{{Name: "k", Kind: api.Str}, {Name: "n", Kind: api.Int}} }

func knTable(rows ...row) api.Table { return api.Table{Cols: kn(), Rows: rows} }

// wide has a column of each kind.
func wide() api.Table {
	return api.Table{
		Cols: []api.Col{{Name: "i", Kind: api.Int}, {Name: "s", Kind: api.Str}, {Name: "b", Kind: api.Bool}, {Name: "h", Kind: api.Hist}},
		Rows: []row{
			{i(2), s("y"), b(true), value.Bucket(1)},
			{i(-1), s("\xff"), b(false), value.Bucket(1000)},
			{i(2), s(""), b(true), value.Bucket(0)},
			{i(math.MinInt), s(strings.Repeat("z", 64)), b(true), value.Bucket(10)},
			{i(2), s("y"), b(true), value.Bucket(1)},
			{i(2), s("y"), b(false), value.Bucket(1)},
		},
	}
}

// ragged is a table that may not be: rows of unlike length, values that are not valid or of other kinds.
func ragged() api.Table {
	return api.Table{
		Cols: []api.Col{{Name: "K", Kind: 9}, {Name: "K", Kind: 9}, {}},
		Rows: []row{
			{i(2)}, {i(1), i(5), i(7)}, {}, {i(1), i(5)}, {s("a")}, {i(1), s("")}, {{Kind: api.Int, S: "x"}}, {i(0)}, {{Kind: -1}}, nil, {i(1), i(5)},
		},
	}
}

// ints is a table of n columns a0, a1, .. without rows.
func ints(n int) api.Table {
	var t api.Table
	for k := range n {
		t.Cols = append(t.Cols, api.Col{Name: "a" + strconv.Itoa(k), Kind: api.Int})
	}
	return t
}

// roomy is a copy with spare room behind each list's end, and something in that room.
func roomy(t api.Table) api.Table {
	out := api.Table{Cols: withRoom(t.Cols, api.Col{Name: "spare", Kind: 7})}
	var rows []row
	for _, r := range t.Rows {
		rows = append(rows, withRoom(r, i(777)))
	}
	out.Rows = withRoom(rows, row{i(888)})
	return out
}

func withRoom[E any](list []E, spare E) []E {
	out := append(slices.Clip(slices.Clone(list)), spare, spare)
	return out[:len(list)]
}

// deep is a copy of all of a table, with what stands behind each list's end.
func deep(t api.Table) api.Table {
	out := api.Table{Cols: slices.Clone(t.Cols[:cap(t.Cols)])}
	for _, r := range t.Rows[:cap(t.Rows)] {
		out.Rows = append(out.Rows, slices.Clone(r[:cap(r)]))
	}
	return out
}

// scribble writes over all of a table, and behind each list's end.
func scribble(t api.Table) {
	for k := range t.Cols[:cap(t.Cols)] {
		t.Cols[:cap(t.Cols)][k] = api.Col{Name: "scribble", Kind: 99}
	}
	for k, r := range t.Rows[:cap(t.Rows)] {
		for n := range r[:cap(r)] {
			r[:cap(r)][n] = i(-99)
		}
		t.Rows[:cap(t.Rows)][k] = nil
	}
}

// equal is reflect's, but that a list that is empty may be nil.
func equal(a, b api.Table) bool {
	return slices.Equal(a.Cols, b.Cols) && slices.EqualFunc(a.Rows, b.Rows, slices.Equal[row])
}

func want(t *testing.T, what string, got, want api.Table) {
	t.Helper()
	if !equal(got, want) {
		t.Errorf("%s:\n got %v\nwant %v", what, got, want)
	}
}

func wantError(t *testing.T, what string, got api.Table, e, wanted api.Errno) {
	t.Helper()
	if e != wanted || got.Cols != nil || got.Rows != nil {
		t.Errorf("%s: %v, %d; want nothing, and %d", what, got, e, wanted)
	}
}

func TestP2_1Name(t *testing.T) {
	for _, x := range []string{"a", "z", "m", "a0", "a9", "a_", "a#", "a#b", "zz_09#", "a__", "a##", longestName, "a" + strings.Repeat("#", 23)} {
		if !table.Name(x) {
			t.Errorf("Name(%q) is false", x)
		}
	}
	for _, x := range []string{
		"", "9", "0", "_", "#", "_a", "#a", "9a", " ", "A", "Z", "`", "{", "a ", " a", "a b", "aB", "aZz", "a-", "a.b", "a/", "a:", "a\"",
		"a$", "a`", "a{", "a@", "a[", "a^", "a\x00", "a\n", "a\x7f", "a\xff", "é", "aé", longestName + "y", longestName + "#", strings.Repeat("a", 1000),
	} {
		if table.Name(x) {
			t.Errorf("Name(%q) is true", x)
		}
	}
}

func TestP2_1NameByte(t *testing.T) {
	const first = "abcdefghijklmnopqrstuvwxyz"
	for c := range 256 {
		x := string([]byte{byte(c)})
		if got := table.Name(x); got != strings.Contains(first, x) {
			t.Errorf("Name(%q) = %v", x, got)
		}
		for _, y := range []string{"a" + x, "a" + x + "b", "abcdefghijklmnopqrstuvw" + x} {
			if got := table.Name(y); got != strings.Contains(first+"0123456789_#", x) {
				t.Errorf("Name(%q) = %v", y, got)
			}
		}
	}
}

func TestP2_1CheckCols(t *testing.T) {
	named := func(names ...string) api.Table {
		var out api.Table
		for _, n := range names {
			out.Cols = append(out.Cols, api.Col{Name: n, Kind: api.Str})
		}
		return out
	}
	kind := func(k int) api.Table {
		return api.Table{Cols: []api.Col{{Name: "a", Kind: api.Int}, {Name: "b", Kind: k}}}
	}
	twice := ints(16)
	twice.Cols[15].Name = "a0"
	middle := ints(16)
	middle.Cols[8].Name = "a7"
	for _, x := range []struct {
		what string
		t    api.Table
		want api.Errno
	}{
		{"no columns", api.Table{}, api.ErrCols},
		{"an empty list of columns", api.Table{Cols: []api.Col{}}, api.ErrCols},
		{"no columns, rows without values", api.Table{Rows: []row{{}}}, api.ErrCols},
		{"1 column", ints(1), api.OK},
		{"2 columns", ints(2), api.OK},
		{"16 columns", ints(16), api.OK},
		{"17 columns", ints(17), api.ErrCols},
		{"1000 columns", ints(1000), api.ErrCols},
		{"a name of 24 bytes", named(longestName), api.OK},
		{"a name of 25 bytes", named(longestName + "y"), api.ErrCols},
		{"a name of 25 bytes behind another", named("a", longestName+"y"), api.ErrCols},
		{"no name", named("a", ""), api.ErrCols},
		{"a wrong name", named("a", "B"), api.ErrCols},
		{"a name twice", named("k", "k"), api.ErrCols},
		{"a name twice, of two kinds", api.Table{Cols: []api.Col{{Name: "k", Kind: api.Str}, {Name: "k", Kind: api.Int}}}, api.ErrCols},
		{"a name first and last", twice, api.ErrCols},
		{"a name twice in the middle", middle, api.ErrCols},
		{"one name the other's beginning", named("k", "kk"), api.OK},
		{"kind 0", kind(0), api.ErrCols},
		{"kind 1", kind(1), api.OK},
		{"kind 2", kind(2), api.OK},
		{"kind 3", kind(3), api.OK},
		{"kind 4", kind(4), api.OK},
		{"kind 5", kind(5), api.ErrCols},
		{"kind -1", kind(-1), api.ErrCols},
		{"the least kind", kind(math.MinInt), api.ErrCols},
		{"the greatest kind", kind(math.MaxInt), api.ErrCols},
		{"wrong columns ahead of wrong rows", api.Table{Cols: named("k", "k").Cols, Rows: []row{{s("a")}}}, api.ErrCols},
	} {
		if e := table.Check(x.t); e != x.want {
			t.Errorf("Check of %s = %d, want %d", x.what, e, x.want)
		}
	}
}

func TestP2_1CheckRows(t *testing.T) {
	for _, x := range []struct {
		what string
		t    api.Table
		want api.Errno
	}{
		{"no rows", knTable(), api.OK},
		{"a row", knTable(row{s("a"), i(1)}), api.OK},
		{"a column of each kind", wide(), api.OK},
		{"rows in no order, one twice", knTable(row{s("b"), i(1)}, row{s("a"), i(1)}, row{s("b"), i(1)}), api.OK},
		{"a row that is nil", knTable(nil), api.ErrRows},
		{"a row too short", knTable(row{s("a")}), api.ErrRows},
		{"a row too long", knTable(row{s("a"), i(1), i(1)}), api.ErrRows},
		{"rows of unlike length", knTable(row{s("a"), i(1)}, row{s("a")}), api.ErrRows},
		{"kinds changed", knTable(row{i(1), s("a")}), api.ErrRows},
		{"another kind at the end", knTable(row{s("a"), b(true)}), api.ErrRows},
		{"another kind in the last row", knTable(row{s("a"), i(1)}, row{s("a"), s("")}), api.ErrRows},
		{"a value of nothing", knTable(row{{}, i(1)}), api.ErrRows},
		{"a text of 64 bytes", knTable(row{s(strings.Repeat("z", 64)), i(1)}), api.OK},
		{"a text of 65 bytes", knTable(row{{Kind: api.Str, S: strings.Repeat("z", 65)}, i(1)}), api.ErrRows},
		{"an Int with a text", knTable(row{s("a"), {Kind: api.Int, S: "x"}}), api.ErrRows},
		{"a Str with a number", knTable(row{{Kind: api.Str, S: "a", N: 1}, i(1)}), api.ErrRows},
		{"a Bool of 2", api.Table{Cols: []api.Col{{Name: "b", Kind: api.Bool}}, Rows: []row{{{Kind: api.Bool, N: 2}}}}, api.ErrRows},
	} {
		if e := table.Check(x.t); e != x.want {
			t.Errorf("Check of %s = %d, want %d", x.what, e, x.want)
		}
	}
}

func TestP2_1Find(t *testing.T) {
	cols := []api.Col{{Name: "k", Kind: 1}, {Name: "n", Kind: 2}, {Name: "k", Kind: 3}, {Name: "", Kind: 4}, {Name: "LONG" + longestName, Kind: 9}, {Name: "n"}}
	for name, at := range map[string]int{"k": 0, "n": 1, "": 3, "LONG" + longestName: 4, "K": -1, "kn": -1, "k ": -1} {
		if got := table.Find(cols, name); got != at {
			t.Errorf("Find(%q) = %d, want %d", name, got, at)
		}
	}
	if got := table.Find(cols[1:], "k"); got != 1 {
		t.Errorf("Find in a piece = %d, want 1", got)
	}
	for _, none := range [][]api.Col{nil, {}, cols[:0]} {
		if got := table.Find(none, "k"); got != -1 {
			t.Errorf("Find in no columns = %d, want -1", got)
		}
	}
	if got := table.Find(nil, ""); got != -1 {
		t.Errorf("Find of no name in no columns = %d, want -1", got)
	}
}

func TestP2_2Canon(t *testing.T) {
	example := knTable(row{s("b"), i(1)}, row{s("a"), i(2)}, row{s("a"), i(1)})
	want(t, "the example", table.Canon(example), knTable(row{s("a"), i(1)}, row{s("a"), i(2)}, row{s("b"), i(1)}))
	w := wide()
	want(t, "each kind", table.Canon(w), api.Table{Cols: w.Cols, Rows: []row{w.Rows[3], w.Rows[1], w.Rows[2], w.Rows[5], w.Rows[0], w.Rows[4]}})
	bytes := knTable(row{s("é"), i(0)}, row{s("z"), i(0)}, row{s("zz"), i(-5)}, row{s("A"), i(10)}, row{s("A"), i(9)}, row{s(""), i(0)})
	want(t, "texts by bytes, numbers by size", table.Canon(bytes), knTable(row{s(""), i(0)}, row{s("A"), i(9)}, row{s("A"), i(10)}, row{s("z"), i(0)}, row{s("zz"), i(-5)}, row{s("é"), i(0)}))
	same := knTable(row{s("a"), i(1)}, row{s("b"), i(1)}, row{s("a"), i(1)}, row{s("b"), i(1)}, row{s("a"), i(1)})
	want(t, "the same row more than once", table.Canon(same), knTable(row{s("a"), i(1)}, row{s("a"), i(1)}, row{s("a"), i(1)}, row{s("b"), i(1)}, row{s("b"), i(1)}))
	want(t, "no rows", table.Canon(knTable()), knTable())
	want(t, "nothing", table.Canon(api.Table{}), api.Table{})
	want(t, "rows without columns", table.Canon(api.Table{Rows: []row{{i(1)}, {}}}), api.Table{Rows: []row{{}, {i(1)}}})
}

func TestP2_2CanonOfAnyTable(t *testing.T) {
	want(t, "a table that may not be", table.Canon(ragged()), api.Table{
		Cols: ragged().Cols,
		Rows: []row{
			{}, {}, {{Kind: -1}}, {i(0)}, {{Kind: api.Int, S: "x"}}, {i(1), i(5)}, {i(1), i(5)}, {i(1), i(5), i(7)}, {i(1), s("")}, {i(2)}, {s("a")},
		},
	})
	many := ints(40)
	want(t, "40 columns", table.Canon(many), many)
}

func TestP2_2CanonOfManyRows(t *testing.T) {
	const n = 5000
	in := knTable()
	for k := range n {
		in.Rows = append(in.Rows, row{s(strconv.Itoa(k * 7919 % n % 10)), i(k * 7919 % n)})
	}
	out := table.Canon(in)
	if len(out.Rows) != n {
		t.Fatalf("%d rows", len(out.Rows))
	}
	for k, r := range out.Rows {
		want := row{s(strconv.Itoa(k / (n / 10))), i(k%(n/10)*10 + k/(n/10))}
		if !slices.Equal(r, want) {
			t.Fatalf("row %d is %v, want %v", k, r, want)
		}
	}
}

func TestP2_2Same(t *testing.T) {
	base := func() api.Table { return knTable(row{s("b"), i(1)}, row{s("a"), i(2)}) }
	for what, x := range map[string]func(*api.Table){
		"a column's name":     func(x *api.Table) { x.Cols[1].Name = "m" },
		"a column's kind":     func(x *api.Table) { x.Cols[1].Kind = api.Bool },
		"columns changed":     func(x *api.Table) { slices.Reverse(x.Cols) },
		"one column more":     func(x *api.Table) { x.Cols = append(x.Cols, api.Col{Name: "x", Kind: api.Int}) },
		"one column less":     func(x *api.Table) { x.Cols = x.Cols[:1] },
		"rows changed":        func(x *api.Table) { slices.Reverse(x.Rows) },
		"a row less":          func(x *api.Table) { x.Rows = x.Rows[:1] },
		"a row twice":         func(x *api.Table) { x.Rows = append(x.Rows, x.Rows[1]) },
		"no rows":             func(x *api.Table) { x.Rows = nil },
		"a value":             func(x *api.Table) { x.Rows[1][1] = i(3) },
		"the first value":     func(x *api.Table) { x.Rows[0][0] = s("B") },
		"a value of no kind":  func(x *api.Table) { x.Rows[1][1].Kind = 9 },
		"a field beside":      func(x *api.Table) { x.Rows[1][1].S = "x" },
		"a bucket beside":     func(x *api.Table) { x.Rows[1][1].H[7] = 1 },
		"a row that is short": func(x *api.Table) { x.Rows[1] = x.Rows[1][:1] },
		"a row that is long":  func(x *api.Table) { x.Rows[1] = append(x.Rows[1], i(0)) },
		"an empty row":        func(x *api.Table) { x.Rows[1] = nil },
	} {
		other := base()
		x(&other)
		if table.Same(base(), other) || table.Same(other, base()) {
			t.Errorf("Same in spite of: %s", what)
		}
		again := base()
		x(&again)
		if !table.Same(other, again) || !table.Same(other, other) {
			t.Errorf("not the same as itself: %s", what)
		}
	}
	if !table.Same(api.Table{}, api.Table{Cols: []api.Col{}, Rows: []row{}}) || !table.Same(knTable(nil), knTable(row{})) {
		t.Error("lists that are empty are the same, be they nil or not")
	}
	if !table.Same(ragged(), ragged()) {
		t.Error("a table that may not be is not the same as itself")
	}
}

func TestP2_3Union(t *testing.T) {
	x := knTable(row{s("b"), i(1)}, row{s("a"), i(2)}, row{s("a"), i(2)})
	y := knTable(row{s("a"), i(2)}, row{s("c"), i(0)}, row{s("a"), i(-1)})
	got, e := table.Union(x, y)
	if e != api.OK {
		t.Fatal(e)
	}
	want(t, "the rows of both", got, knTable(row{s("a"), i(-1)}, row{s("a"), i(2)}, row{s("a"), i(2)}, row{s("a"), i(2)}, row{s("b"), i(1)}, row{s("c"), i(0)}))
	for what, z := range map[string]struct{ a, b, want api.Table }{
		"both without rows":      {knTable(), knTable(), knTable()},
		"the first without rows": {knTable(), x, table.Canon(x)},
		"the other without rows": {x, knTable(), table.Canon(x)},
		"with itself":            {x, x, knTable(row{s("a"), i(2)}, row{s("a"), i(2)}, row{s("a"), i(2)}, row{s("a"), i(2)}, row{s("b"), i(1)}, row{s("b"), i(1)})},
		"16 columns":             {ints(16), ints(16), ints(16)},
	} {
		got, e := table.Union(z.a, z.b)
		if e != api.OK {
			t.Errorf("Union, %s: %d", what, e)
		}
		want(t, what, got, z.want)
	}
}

func TestP2_3UnionErrors(t *testing.T) {
	good, noCols, badRows := knTable(row{s("a"), i(1)}), api.Table{}, knTable(row{s("a")})
	otherName := api.Table{Cols: []api.Col{{Name: "k", Kind: api.Str}, {Name: "m", Kind: api.Int}}}
	otherKind := api.Table{Cols: []api.Col{{Name: "k", Kind: api.Str}, {Name: "n", Kind: api.Bool}}}
	otherOrder := api.Table{Cols: []api.Col{{Name: "n", Kind: api.Int}, {Name: "k", Kind: api.Str}}}
	fewer := api.Table{Cols: kn()[:1]}
	otherBad := api.Table{Cols: otherName.Cols, Rows: []row{{i(1)}}}
	for _, x := range []struct {
		what string
		a, b api.Table
		want api.Errno
	}{
		{"columns that may not be, first", noCols, good, api.ErrCols},
		{"columns that may not be, second", good, noCols, api.ErrCols},
		{"the same columns that may not be", ints(17), ints(17), api.ErrCols},
		{"rows that do not fit, first", badRows, good, api.ErrRows},
		{"rows that do not fit, second", good, badRows, api.ErrRows},
		{"the first one's error first: rows", badRows, noCols, api.ErrRows},
		{"the first one's error first: columns", noCols, badRows, api.ErrCols},
		{"rows that do not fit ahead of other columns, first", otherBad, good, api.ErrRows},
		{"rows that do not fit ahead of other columns, second", good, otherBad, api.ErrRows},
		{"another name", good, otherName, api.ErrCols},
		{"another kind", good, otherKind, api.ErrCols},
		{"another order", good, otherOrder, api.ErrCols},
		{"fewer columns", good, fewer, api.ErrCols},
		{"more columns", fewer, good, api.ErrCols},
		{"other columns, no rows", knTable(), otherName, api.ErrCols},
	} {
		got, e := table.Union(x.a, x.b)
		wantError(t, "Union, "+x.what, got, e, x.want)
	}
}

func TestP2_4Keep(t *testing.T) {
	x := knTable(row{s("b"), i(1)}, row{s("a"), i(2)}, row{s("a"), i(1)})
	n := []api.Col{{Name: "n", Kind: api.Int}}
	k := []api.Col{{Name: "k", Kind: api.Str}}
	nk := []api.Col{n[0], k[0]}
	w := wide()
	for _, z := range []struct {
		what  string
		t     api.Table
		names []string
		want  api.Table
	}{
		{"the example", x, []string{"n"}, api.Table{Cols: n, Rows: []row{{i(1)}, {i(1)}, {i(2)}}}},
		{"the first column", x, []string{"k"}, api.Table{Cols: k, Rows: []row{{s("a")}, {s("a")}, {s("b")}}}},
		{"all columns", x, []string{"k", "n"}, table.Canon(x)},
		{"all columns, the other way round", x, []string{"n", "k"}, api.Table{Cols: nk, Rows: []row{{i(1), s("a")}, {i(1), s("b")}, {i(2), s("a")}}}},
		{"no rows", knTable(), []string{"n"}, api.Table{Cols: n}},
		{"three of four", w, []string{"h", "s", "i"}, api.Table{
			Cols: []api.Col{w.Cols[3], w.Cols[1], w.Cols[0]},
			Rows: []row{
				{value.Bucket(1000), s("\xff"), i(-1)},
				{value.Bucket(10), s(strings.Repeat("z", 64)), i(math.MinInt)},
				{value.Bucket(1), s("y"), i(2)}, {value.Bucket(1), s("y"), i(2)}, {value.Bucket(1), s("y"), i(2)},
				{value.Bucket(0), s(""), i(2)},
			},
		}},
	} {
		got, e := table.Keep(z.t, z.names)
		if e != api.OK {
			t.Errorf("Keep, %s: %d", z.what, e)
		}
		want(t, z.what, got, z.want)
	}
}

func TestP2_4KeepOfSixteen(t *testing.T) {
	in := ints(16)
	in.Rows = []row{nil}
	var names []string
	for k := range 16 {
		in.Rows[0] = append(in.Rows[0], i(k))
		names = append(names, "a"+strconv.Itoa(15-k))
	}
	got, e := table.Keep(in, names)
	if e != api.OK {
		t.Fatal(e)
	}
	slices.Reverse(in.Cols)
	slices.Reverse(in.Rows[0])
	want(t, "16 columns turned round", got, in)
	got, e = table.Keep(in, append(names, "a0"))
	wantError(t, "Keep of 17 names", got, e, api.ErrCols)
}

func TestP2_4KeepErrors(t *testing.T) {
	good, badRows := knTable(row{s("a"), i(1)}), knTable(row{s("a")})
	for _, x := range []struct {
		what  string
		t     api.Table
		names []string
		want  api.Errno
	}{
		{"columns that may not be", api.Table{}, []string{"k"}, api.ErrCols},
		{"a column twice", api.Table{Cols: []api.Col{{Name: "k", Kind: 1}, {Name: "k", Kind: 1}}}, []string{"k"}, api.ErrCols},
		{"rows that do not fit", badRows, []string{"k"}, api.ErrRows},
		{"rows that do not fit ahead of no names", badRows, nil, api.ErrRows},
		{"rows that do not fit ahead of a wrong name", badRows, []string{"x"}, api.ErrRows},
		{"no names", good, nil, api.ErrCols},
		{"an empty list of names", good, []string{}, api.ErrCols},
		{"no names, no rows", knTable(), nil, api.ErrCols},
		{"a name twice", good, []string{"k", "k"}, api.ErrCols},
		{"a name twice, apart", good, []string{"k", "n", "k"}, api.ErrCols},
		{"a name of no column", good, []string{"x"}, api.ErrCols},
		{"a name of no column, last", good, []string{"k", "n", "x"}, api.ErrCols},
		{"a name of no column, first", good, []string{"x", "k"}, api.ErrCols},
		{"an empty name", good, []string{""}, api.ErrCols},
		{"a capital", good, []string{"K"}, api.ErrCols},
		{"very many names", good, make([]string, 100000), api.ErrCols},
	} {
		got, e := table.Keep(x.t, x.names)
		wantError(t, "Keep, "+x.what, got, e, x.want)
	}
}

// shuffled are n orders of a table's rows, the same ones each time.
func shuffled(t api.Table, n int) []api.Table {
	var out []api.Table
	for k := range n {
		x := api.Table{Cols: t.Cols, Rows: slices.Clone(t.Rows)}
		at := k
		for j := len(x.Rows) - 1; j > 0; j-- {
			at = (at*31 + 17) % 1009
			x.Rows[j], x.Rows[at%(j+1)] = x.Rows[at%(j+1)], x.Rows[j]
		}
		out = append(out, x)
	}
	return out
}

func TestP2_5CanonOfCanon(t *testing.T) {
	for _, x := range []api.Table{{}, knTable(), knTable(row{s("b"), i(1)}, row{s("a"), i(1)}), wide(), ragged(), ints(40)} {
		c := table.Canon(x)
		if !table.Same(table.Canon(c), c) {
			t.Errorf("Canon of Canon of %v is %v", x, table.Canon(c))
		}
		for _, y := range shuffled(x, 50) {
			if !table.Same(table.Canon(y), c) {
				t.Fatalf("Canon of %v hangs on the rows' order: %v, %v", x, table.Canon(y), c)
			}
		}
	}
}

func TestP2_5KeepAndUnionInAnyOrderOfRows(t *testing.T) {
	x := wide()
	kept, _ := table.Keep(x, []string{"b", "i"})
	twice, _ := table.Union(x, x)
	for _, y := range shuffled(x, 50) {
		k, e := table.Keep(y, []string{"b", "i"})
		u, f := table.Union(y, x)
		if e != api.OK || f != api.OK || !table.Same(k, kept) || !table.Same(u, twice) {
			t.Fatalf("%d, %d: %v, %v hang on the rows' order", e, f, k, u)
		}
	}
}

func TestP2_5UnionEitherWay(t *testing.T) {
	union := func(a, b api.Table) api.Table {
		got, e := table.Union(a, b)
		if e != api.OK {
			t.Fatal(e)
		}
		return got
	}
	all := []api.Table{
		knTable(), knTable(row{s("b"), i(1)}), knTable(row{s("b"), i(1)}, row{s("a"), i(1)}, row{s("b"), i(1)}),
		knTable(row{s("a"), i(2)}, row{s(""), i(math.MinInt)}, row{s("a"), i(1)}), knTable(row{s("c"), i(0)}, row{s("b"), i(0)}, row{s("a"), i(0)}),
	}
	for _, a := range all {
		for _, b := range all {
			if !table.Same(union(a, b), union(b, a)) {
				t.Errorf("%v and %v: not so with sides changed", a, b)
			}
			for _, c := range all {
				if !table.Same(union(union(a, b), c), union(a, union(b, c))) {
					t.Errorf("%v, %v and %v: not so put together the other way", a, b, c)
				}
			}
		}
	}
}

// calls make an answer of two tables, each by one call of the layer.
func calls() map[string]func(x, y api.Table) api.Table {
	return map[string]func(x, y api.Table) api.Table{
		"Canon":      func(x, _ api.Table) api.Table { return table.Canon(x) },
		"Union":      func(x, y api.Table) api.Table { u, _ := table.Union(x, y); return u },
		"Union of x": func(x, _ api.Table) api.Table { u, _ := table.Union(x, x); return u },
		"Keep":       func(x, _ api.Table) api.Table { k, _ := table.Keep(x, []string{"s", "i"}); return k },
		"Keep all":   func(x, _ api.Table) api.Table { k, _ := table.Keep(x, []string{"i", "s", "b", "h"}); return k },
		"the others": func(x, y api.Table) api.Table {
			table.Check(x)
			table.Find(x.Cols, "h")
			table.Same(x, y)
			return api.Table{}
		},
	}
}

func TestR7WhatIsHandedInStays(t *testing.T) {
	for what, call := range calls() {
		for _, pair := range [][2]api.Table{{wide(), wide()}, {wide(), ragged()}, {ragged(), wide()}} {
			x, y := roomy(pair[0]), roomy(pair[1])
			wasX, wasY := deep(x), deep(y)
			got := call(x, y)
			if !reflect.DeepEqual(deep(x), wasX) || !reflect.DeepEqual(deep(y), wasY) {
				t.Errorf("%s changed what it was given", what)
			}
			scribble(got)
			if !reflect.DeepEqual(deep(x), wasX) || !reflect.DeepEqual(deep(y), wasY) {
				t.Errorf("%s answers memory that it was given", what)
			}
			again := call(x, y)
			was := deep(again)
			scribble(x)
			scribble(y)
			if !reflect.DeepEqual(deep(again), was) {
				t.Errorf("%s answers memory that it was given", what)
			}
		}
	}
}

func TestR7NamesStay(t *testing.T) {
	names := withRoom([]string{"s", "i"}, "spare")
	table.Keep(wide(), names)
	if !slices.Equal(names[:cap(names)][:4], []string{"s", "i", "spare", "spare"}) {
		t.Errorf("Keep changed the names: %q", names[:cap(names)])
	}
}

func TestR7RowsShareNothing(t *testing.T) {
	for what, call := range calls() {
		got := call(wide(), wide())
		for k := range got.Rows {
			was := deep(got)
			r := got.Rows[k][:cap(got.Rows[k])]
			for n := range r {
				r[n] = i(1234)
			}
			for j, other := range deep(got).Rows {
				if j != k && !slices.Equal(other, was.Rows[j]) {
					t.Fatalf("%s: the rows %d and %d share memory", what, k, j)
				}
			}
		}
	}
}
