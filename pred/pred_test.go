package pred_test

import (
	"math"
	"math/rand"
	"reflect"
	"slices"
	"strings"
	"testing"

	"catchment/api"
	"catchment/lex"
	"catchment/parse"
	"catchment/pred"
	"catchment/table"
)

func col(name string, kind int) api.Col { return api.Col{Name: name, Kind: kind} }

func intOf(n int) api.Value { return api.Value{Kind: api.Int, N: n} }

func strOf(s string) api.Value { return api.Value{Kind: api.Str, S: s} }

func boolOf(n int) api.Value { return api.Value{Kind: api.Bool, N: n} }

func histOf(h ...int) api.Value {
	v := api.Value{Kind: api.Hist}
	copy(v.H[:], h)
	return v
}

// loadCols and web1 are those of the chapter's examples, and a Bool and a Hist.
func loadCols() []api.Col {
	return []api.Col{col("host", api.Str), col("n", api.Int), col("up", api.Bool), col("h", api.Hist)}
}

func web1() []api.Value { return []api.Value{strOf("web1"), intOf(5), boolOf(1), histOf(0, 2)} }

func nodes(l ...api.Node) api.Query { return api.Query{N: l} }

func cmp(name string, how int, v api.Value) api.Node {
	return api.Node{Kind: api.PCmp, S: name, N: how, V: v}
}

func has(name string, v api.Value) api.Node { return api.Node{Kind: api.PHas, S: name, V: v} }

func and(l ...int) api.Node { return api.Node{Kind: api.PAnd, L: l} }

func or(l ...int) api.Node { return api.Node{Kind: api.POr, L: l} }

func not(l ...int) api.Node { return api.Node{Kind: api.PNot, L: l} }

// yes and no are conditions that hold, and don't, for web1.
func yes() api.Node { return cmp("n", api.Eq, intOf(5)) }

func no() api.Node { return cmp("n", api.Eq, intOf(6)) }

func parsed(t *testing.T, s string) api.Query {
	t.Helper()
	l, _, e := lex.Lex(s)
	if e != api.OK {
		t.Fatalf("Lex(%q): %d", s, e)
	}
	q, at, e := parse.Cond(l)
	if e != api.OK {
		t.Fatalf("Cond(%q): %d at %d", s, e, at)
	}
	return q
}

// wantText holds a condition's text for web1.
func wantText(t *testing.T, s string, want bool) {
	t.Helper()
	q := parsed(t, s)
	if pred.Holds(q, len(q.N)-1, loadCols(), web1()) != want {
		t.Errorf("%s is not %v", s, want)
	}
}

// wantNode holds a node for web1.
func wantNode(t *testing.T, q api.Query, i int, want bool) {
	t.Helper()
	if pred.Holds(q, i, loadCols(), web1()) != want {
		t.Errorf("the node %d of %+v is not %v", i, q.N, want)
	}
}

// wantLast holds the last node for web1.
func wantLast(t *testing.T, want bool, l ...api.Node) {
	t.Helper()
	wantNode(t, nodes(l...), len(l)-1, want)
}

func TestExamples(t *testing.T) {
	cols, row := []api.Col{col("host", api.Str), col("n", api.Int)}, []api.Value{strOf("web1"), intOf(5)}
	for s, want := range map[string]bool{`host has "eb"`: true, `host has "x"`: false, `n > 4 and not host = "web"`: true, "y = 1": false} {
		q := parsed(t, s)
		if pred.Holds(q, len(q.N)-1, cols, row) != want {
			t.Errorf("%s is not %v", s, want)
		}
	}
}

func TestP15_1Texts(t *testing.T) {
	for s, want := range map[string]bool{
		"n = 5": true, "n != 5": false, "n < 5": false, "n <= 5": true, "n > 5": false, "n >= 5": true,
		"n = 6": false, "n != 6": true, "n < 6": true, "n <= 6": true, "n > 6": false, "n >= 6": false,
		"n = 4": false, "n != 4": true, "n < 4": false, "n <= 4": false, "n > 4": true, "n >= 4": true,
		`host < "web2"`: true, `host > "web"`: true, `host = "web1"`: true, `host = "Web1"`: false, `host < "web10"`: true,
		"up = true": true, "up = false": false, "up != false": true, "up > false": true,
		`host has "web1"`: true, `host has "1"`: true, `host has ""`: true, `host has "web11"`: false, `host has "w1"`: false,
		`n = "5"`: false, `n != "5"`: false, "host != 5": false, "up = 1": false, "up != 1": false, "h = 1": false, "h != 1": false,
		`n has "5"`: false, `up has ""`: false, `h has ""`: false, `n has ""`: false,
		"y = 1": false, "y != 1": false, `y has ""`: false, "not y = 1": true, `not y has ""`: true,
		"n = 5 and up = true": true, "n = 5 and up = false": false, "n = 5 or y = 1": true, "y = 1 or n = 5": true, "y = 1 or y != 1": false,
		"not (n = 5 and up = true)": false, "not not n = 5": true, `n = 6 and up = true or host has "b"`: true, `n = 6 and (up = true or host has "b")`: false,
	} {
		wantText(t, s, want)
	}
}

// Each kind of value, in a column's place and as V, valid or not, by each how that there is, and others.
func TestP15_1Cmp(t *testing.T) {
	values := []api.Value{
		{}, intOf(0), intOf(1), intOf(-1), intOf(math.MinInt), intOf(math.MaxInt), boolOf(0), boolOf(1), boolOf(2), histOf(), histOf(1), histOf(0, 1), histOf(0, 0, 0, 0, 0, 0, 0, -1),
		strOf(""), strOf("a"), strOf("ab"), strOf("\x00"), strOf("\xff"), strOf(strings.Repeat("a", 65)),
		{Kind: api.Int, S: "a"}, {Kind: api.Int, H: [8]int{1}}, {Kind: api.Str, N: 1}, {Kind: 9}, {Kind: 9, N: 1}, {Kind: -1, S: "a"},
	}
	cols := []api.Col{col("k", api.Int)}
	for _, a := range values {
		for _, b := range values {
			for _, how := range []int{api.Eq, api.Ne, api.Lt, api.Le, api.Gt, api.Ge, 0, 7, -1, math.MaxInt, math.MinInt} {
				if got := pred.Holds(nodes(cmp("k", how, b)), 0, cols, []api.Value{a}); got != ruleCmp(how, a, b) {
					t.Errorf("%v %d %v is %v", a, how, b, got)
				}
			}
		}
	}
}

func TestP15_1Has(t *testing.T) {
	cols := []api.Col{col("k", api.Str)}
	long := strings.Repeat("ab", 5000)
	for _, c := range []struct {
		text, part string
		want       bool
	}{
		{"", "", true}, {"", "a", false}, {"a", "", true}, {"abc", "abc", true}, {"abc", "bc", true}, {"abc", "ab", true}, {"abc", "b", true},
		{"abc", "ac", false}, {"abc", "abcd", false}, {"abc", "B", false}, {"aab", "ab", true}, {"日本語", "本", true}, {"日本語", "\xac", true},
		{"\xff\x00", "\x00", true}, {"\xff\x00", "\xff", true}, {"\xff\x00", "\x00\xff", false}, {long, "ba", true}, {long, "bb", false}, {long, long, true}, {long, long + "a", false},
	} {
		if pred.Holds(nodes(has("k", strOf(c.part))), 0, cols, []api.Value{strOf(c.text)}) != c.want {
			t.Errorf("%q has %q is not %v", c.text, c.part, c.want)
		}
	}
}

// Of the column's value the kind counts, and of V its S, whatever else they are.
func TestP15_1HasGoesByTheValue(t *testing.T) {
	for _, kind := range []int{api.Int, api.Bool, api.Hist, 0, 5, -1} {
		odd := api.Value{Kind: kind, S: "web1"}
		for _, declared := range []int{api.Int, api.Str, 0} {
			cols := []api.Col{col("k", declared)}
			if pred.Holds(nodes(has("k", strOf("web"))), 0, cols, []api.Value{odd}) {
				t.Errorf("a value of the kind %d has a text", kind)
			}
			for s, want := range map[string]bool{"web1": true, "eb": false} {
				if pred.Holds(nodes(has("k", odd)), 0, cols, []api.Value{strOf(s)}) != want {
					t.Errorf("%s has the S of a V of the kind %d: not %v", s, kind, want)
				}
			}
		}
	}
	if !pred.Holds(nodes(has("k", strOf("eb"))), 0, []api.Col{col("k", api.Str)}, []api.Value{{Kind: api.Str, N: 7, S: "web", H: [8]int{1}}}) {
		t.Error("a Str with more to it has no text")
	}
	for _, how := range []int{0, api.Eq, api.Ne, -1} {
		n := has("host", strOf("eb"))
		n.N = how
		wantLast(t, true, n)
		n.V.S = "x"
		wantLast(t, false, n)
	}
}

// The first column of the name counts, and no other; what the column is said to be does not.
func TestP15_1FirstColumn(t *testing.T) {
	cols := []api.Col{col("a", api.Str), col("k", api.Str), col("k", api.Int), col("b", api.Int), col("", api.Int)}
	row := []api.Value{intOf(1), intOf(2), intOf(3), strOf("b"), strOf("none")}
	for n := range 5 {
		if pred.Holds(nodes(cmp("k", api.Eq, intOf(n))), 0, cols, row) != (n == 2) {
			t.Errorf("k = %d", n)
		}
	}
	for name, want := range map[string]string{"b": "b", "": "none"} {
		if !pred.Holds(nodes(cmp(name, api.Eq, strOf(want))), 0, cols, row) || !pred.Holds(nodes(has(name, strOf(want))), 0, cols, row) {
			t.Errorf("the column %q", name)
		}
	}
	for _, name := range []string{"c", "A", "k ", "kk", "B"} {
		if pred.Holds(nodes(cmp(name, api.Ne, intOf(77))), 0, cols, row) || pred.Holds(nodes(has(name, strOf(""))), 0, cols, row) {
			t.Errorf("there is a column %q", name)
		}
	}
}

// A row that is too short has no value there, one that is too long has it.
func TestP15_1NoValue(t *testing.T) {
	cols := []api.Col{col("a", api.Int), col("k", api.Str), col("k", api.Str)}
	row := []api.Value{intOf(1), strOf("web"), strOf("web"), strOf("web"), strOf("web")}
	for n := range len(row) + 1 {
		for _, q := range []api.Query{nodes(cmp("k", api.Eq, strOf("web")), not(0)), nodes(has("k", strOf("")), not(0)), nodes(cmp("k", api.Ne, strOf("")), not(0))} {
			if want := n > 1; pred.Holds(q, 0, cols, row[:n]) != want || pred.Holds(q, 1, cols, row[:n]) == want {
				t.Errorf("%d values: %+v is not %v", n, q.N[0], want)
			}
		}
	}
	q := nodes(cmp("k", api.Ne, strOf("")), has("k", strOf("")))
	for i := range q.N {
		if pred.Holds(q, i, cols, nil) || pred.Holds(q, i, nil, row) || pred.Holds(q, i, nil, nil) || pred.Holds(q, i, cols[:1], row) {
			t.Errorf("the node %d holds for a value that is not there", i)
		}
	}
}

func TestP15_1NotAndOr(t *testing.T) {
	both := []api.Node{no(), yes()}
	for a := range 2 {
		wantLast(t, a == 0, append(slices.Clone(both), not(a))...)
		for b := range 2 {
			wantLast(t, a == 1 && b == 1, append(slices.Clone(both), and(a, b))...)
			wantLast(t, a == 1 || b == 1, append(slices.Clone(both), or(a, b))...)
		}
	}
	q := nodes(no(), yes(), and(0, 1), or(2, 1), and(3, 3), or(2, 0), not(4), not(5), and(7, 3), or(6, 5), not(9), not(10))
	for i, want := range []bool{false, true, false, true, true, false, false, true, true, false, true, false} {
		wantNode(t, q, i, want)
	}
}

// None of q's nodes is the one that is asked for.
func TestP15_1NoNode(t *testing.T) {
	q := nodes(yes(), yes(), yes())
	for _, i := range []int{-1, -2, 3, 4, 1000, math.MaxInt, math.MinInt} {
		wantNode(t, q, i, false)
		wantNode(t, api.Query{}, i, false)
		if x := pred.Where(api.Table{Cols: loadCols(), Rows: [][]api.Value{web1()}}, q, i); len(x.Rows) != 0 || !slices.Equal(x.Cols, loadCols()) {
			t.Errorf("Where of the node %d is %v", i, x)
		}
	}
	wantNode(t, api.Query{}, 0, false)
	for i := range q.N {
		wantNode(t, q, i, true)
	}
}

// What is no condition does not hold, whatever it has; a condition of it goes on from there.
func TestP15_1NoCondition(t *testing.T) {
	kinds := []int{math.MinInt, math.MaxInt}
	for kind := -20; kind < 40; kind++ {
		kinds = append(kinds, kind)
	}
	for _, kind := range kinds {
		if kind >= api.PAnd && kind <= api.PHas {
			continue
		}
		for _, l := range [][]int{nil, {0}, {0, 0}, {0, 0, 0}} {
			n := yes()
			n.Kind, n.L = kind, l
			wantLast(t, false, yes(), n)
			wantLast(t, true, yes(), n, not(1))
			wantLast(t, false, yes(), n, and(0, 1))
			wantLast(t, true, yes(), n, or(1, 0))
		}
	}
}

// A not, an and, an or that does not have as many as it asks for, each ahead, does not hold; what names it goes on from there.
func TestP15_1WrongL(t *testing.T) {
	wrong := map[int][][]int{
		api.PNot: {nil, {}, {0, 0}, {0, 0, 0}, {2}, {3}, {4}, {5}, {6}, {-1}, {math.MaxInt}, {math.MinInt}},
		api.PAnd: {nil, {}, {1}, {1, 1, 1}, {1, 1, 1, 1}, {1, 2}, {2, 1}, {2, 2}, {1, 3}, {3, 1}, {4, 1}, {1, 6}, {1, 5}, {5, 1}, {-1, 1}, {1, -1}, {-1, -1}, {1, math.MaxInt}, {math.MinInt, 1}},
	}
	wrong[api.POr] = wrong[api.PAnd]
	for kind, lists := range wrong {
		for _, l := range lists {
			n := api.Node{Kind: kind, L: l}
			q := nodes(no(), yes(), n, not(2), or(2, 1), and(2, 1))
			for i, want := range []bool{false, true, false, true, true, false} {
				wantNode(t, q, i, want)
			}
		}
	}
	for kind, l := range map[int][]int{api.PNot: {0}, api.PAnd: {1, 1}, api.POr: {0, 1}} {
		wantLast(t, true, no(), yes(), api.Node{Kind: kind, L: l})
	}
}

// A comparison, or a has, asks for none below it: what L it has does not count.
func TestP15_1LOfAComparison(t *testing.T) {
	for _, l := range [][]int{nil, {}, {0}, {1}, {0, 0}, {-1}, {7, 8, 9}, {math.MaxInt}, {math.MinInt}} {
		for s, want := range map[string]bool{"web1": true, "x": false} {
			for _, n := range []api.Node{cmp("host", api.Eq, strOf(s)), has("host", strOf(s))} {
				n.L = l
				wantLast(t, want, no(), n)
				wantLast(t, !want, no(), n, not(1))
			}
		}
	}
}

// What a kind does not name does not count.
func TestP15_1OtherFields(t *testing.T) {
	for _, n := range []api.Node{not(0), and(1, 1), or(0, 1), yes(), has("host", strOf("eb"))} {
		n.From, n.To, n.Names, n.Aggs = 7, -7, []string{"n"}, []api.Agg{{Kind: api.Sum, Col: "n"}}
		if n.Kind < api.PCmp {
			n.S, n.N, n.V = "nothing", 77, strOf("x")
		}
		wantLast(t, true, no(), yes(), n)
	}
}

// Neither nodes behind the one that is asked for count, nor others that it does not stand on.
func TestP15_1OtherNodes(t *testing.T) {
	q := nodes(not(), yes(), and(9, 9), no(), or(3, 1), not(4), and(5, 5), api.Node{Kind: api.QFetch})
	for i, want := range []bool{false, true, false, false, true, false, false, false} {
		wantNode(t, q, i, want)
	}
}

// Each node is below the next one twice: as many ways as no call could go; and so deep.
func TestR1ManyWays(t *testing.T) {
	for text, want := range map[string]bool{"web1": true, "web": false} {
		l := []api.Node{cmp("host", api.Eq, strOf(text))}
		for k := range 100000 {
			l = append(l, []api.Node{and(k, k), or(k, k)}[k%2])
		}
		wantLast(t, want, l...)
		l = l[:1]
		for k := range 100001 {
			l = append(l, not(k))
		}
		wantLast(t, !want, l...)
	}
}

// Of many rows, and a query of which the condition is but a little, what it stands on alone is looked at.
func TestR1ManyRows(t *testing.T) {
	var l []api.Node
	long := strings.Repeat("a", 100000)
	longer := strings.Repeat("b", 100) + long
	for k := range 5000 {
		l = append(l, has("host", strOf(long)), and(2*k, 2*k))
	}
	l = append(l, yes(), no(), or(10000, 10001))
	tb := api.Table{Cols: loadCols()}
	for k := range 4096 {
		tb.Rows = append(tb.Rows, []api.Value{strOf(longer), intOf(5 + k%4)})
	}
	if x := pred.Where(tb, nodes(l...), 10002); len(x.Rows) != 2048 {
		t.Errorf("%d rows", len(x.Rows))
	}
}

func TestP15_1ByTheRule(t *testing.T) {
	told := map[bool]int{}
	for seed := range 3000 {
		m := maker{rand.New(rand.NewSource(int64(seed))), seed%2 == 0}
		q := m.query(1 + m.r.Intn(12))
		for range 5 {
			cols := m.cols()
			row := m.row(cols)
			for i := -1; i <= len(q.N); i++ {
				want := ruleHolds(q, i, cols, row)
				if pred.Holds(q, i, cols, row) != want {
					t.Fatalf("seed %d: the node %d of %+v is not %v for %v, %v", seed, i, q.N, want, cols, row)
				}
				told[want]++
			}
		}
	}
	if min(told[true], told[false]) < 10000 {
		t.Errorf("told are %v", told)
	}
}

// The rows stay in their order, be it canonical or not, the same ones as often as they are there.
func TestP15_2Where(t *testing.T) {
	rows := func(l ...int) api.Table {
		tb := api.Table{Cols: []api.Col{col("n", api.Int), col("at", api.Int)}}
		for at, n := range l {
			tb.Rows = append(tb.Rows, []api.Value{intOf(n), intOf(-at)})
		}
		return tb
	}
	in := rows(7, 3, 9, 3, 1, 7)
	for s, want := range map[string][]int{"n > 3": {0, 2, 5}, "n = 3": {1, 3}, "n > 0": {0, 1, 2, 3, 4, 5}, "n < 0": nil, "not n = 7": {1, 2, 3, 4}, "n = 1": {4}, "y = 1": nil, "not y = 1": {0, 1, 2, 3, 4, 5}} {
		q := parsed(t, s)
		got := pred.Where(in, q, len(q.N)-1)
		out := api.Table{Cols: in.Cols}
		for _, at := range want {
			out.Rows = append(out.Rows, in.Rows[at])
		}
		if !table.Same(got, out) {
			t.Errorf("Where %s is %v", s, got)
		}
	}
	same := api.Table{Cols: in.Cols, Rows: [][]api.Value{in.Rows[0], in.Rows[1], in.Rows[0], in.Rows[0]}}
	if got := pred.Where(same, parsed(t, "n = 7"), 0); len(got.Rows) != 3 {
		t.Errorf("Where of the same rows is %v", got)
	}
}

func TestP15_2NoRows(t *testing.T) {
	for _, cols := range [][]api.Col{nil, {}, loadCols(), {col("", 0), col("", 9)}} {
		for _, rows := range [][][]api.Value{nil, {}, {web1()}, {nil, {}, web1()}} {
			got := pred.Where(api.Table{Cols: cols, Rows: rows}, nodes(no()), 0)
			if !slices.Equal(got.Cols, cols) || len(got.Rows) != 0 {
				t.Errorf("Where of %v is %v", cols, got)
			}
		}
	}
}

// Columns and rows that no table may have stay what they are.
func TestP15_2AnyTable(t *testing.T) {
	cols := []api.Col{col("n", api.Str), col("n", 0), col("", -1)}
	rows := [][]api.Value{nil, {}, {intOf(5)}, {strOf("5")}, {intOf(5), intOf(6), {Kind: 9, N: 1, S: "a", H: [8]int{1}}, boolOf(9), strOf("x")}, {intOf(6), intOf(5)}}
	for i, want := range [][][]api.Value{{rows[2], rows[4]}, {rows[0], rows[1], rows[3], rows[5]}} {
		got := pred.Where(api.Table{Cols: cols, Rows: rows}, nodes(yes(), not(0)), i)
		if !table.Same(got, api.Table{Cols: cols, Rows: want}) {
			t.Errorf("Where of the node %d is %v", i, got)
		}
	}
}

func TestP15_2ByTheRule(t *testing.T) {
	rows := 0
	for seed := range 2000 {
		m := maker{rand.New(rand.NewSource(int64(seed))), seed%2 == 0}
		tb, q := m.table(), m.query(1+m.r.Intn(12))
		for i := -1; i <= len(q.N); i++ {
			want := ruleWhere(tb, q, i)
			if got := pred.Where(tb, q, i); !table.Same(got, want) {
				t.Fatalf("seed %d: Where of the node %d of %+v of %v is %v", seed, i, q.N, tb, got)
			}
			rows += len(want.Rows)
		}
	}
	if rows < 10000 {
		t.Errorf("%d rows", rows)
	}
}

// A node, whatever it is, holds, or its not does, not both; what the one leaves out the other leaves.
func TestP15_3OneOfBoth(t *testing.T) {
	for seed := range 1000 {
		m := maker{rand.New(rand.NewSource(int64(seed))), seed%2 == 0}
		tb, q := m.table(), m.query(1+m.r.Intn(10))
		for i := range q.N {
			with := nodes(append(slices.Clone(q.N), not(i))...)
			for _, row := range tb.Rows {
				if pred.Holds(with, i, tb.Cols, row) == pred.Holds(with, len(q.N), tb.Cols, row) {
					t.Fatalf("seed %d: the node %d of %+v and its not for %v", seed, i, q.N, row)
				}
			}
			left, out := pred.Where(tb, with, i), pred.Where(tb, with, len(q.N))
			all := api.Table{Cols: tb.Cols, Rows: slices.Concat(left.Rows, out.Rows)}
			if !table.Same(table.Canon(all), table.Canon(tb)) {
				t.Fatalf("seed %d: the node %d of %+v leaves %v and %v of %v", seed, i, q.N, left, out, tb)
			}
		}
	}
}

// What Where leaves it leaves again, and its not leaves nothing of it.
func TestP15_3WhereOfWhere(t *testing.T) {
	for seed := range 300 {
		m := maker{rand.New(rand.NewSource(int64(seed))), false}
		tb, q := m.table(), m.query(8)
		q.N = append(q.N, not(7))
		left := pred.Where(tb, q, 7)
		if !table.Same(pred.Where(left, q, 7), left) || len(pred.Where(left, q, 8).Rows) != 0 {
			t.Errorf("seed %d: %+v of %v", seed, q.N, left)
		}
	}
}

func TestR6SameEachTime(t *testing.T) {
	q := nodes(yes(), has("host", strOf("eb")), and(0, 1), not(2))
	other := []api.Value{strOf("x"), intOf(5), boolOf(0), histOf()}
	for range 3 {
		for i, want := range [][2]bool{{true, true}, {true, false}, {true, false}, {false, true}} {
			if pred.Holds(q, i, loadCols(), web1()) != want[0] || pred.Holds(q, i, loadCols(), other) != want[1] {
				t.Errorf("the node %d", i)
			}
		}
	}
	// One row's outcome says nothing of the next one's.
	tb := api.Table{Cols: loadCols(), Rows: [][]api.Value{web1(), other, nil, web1(), other[:1], other, web1()[:2]}}
	for i, want := range []int{5, 3, 3, 4} {
		if x := pred.Where(tb, q, i); len(x.Rows) != want {
			t.Errorf("Where of the node %d is %v", i, x)
		}
	}
}

// What is handed in stays, and so does the room behind its lists' ends.
func TestR7HandedInStays(t *testing.T) {
	for seed := range 300 {
		m := maker{rand.New(rand.NewSource(int64(seed))), seed%2 == 0}
		tb, q := m.table(), m.query(8)
		for i := range q.N {
			q.N[i].L = slices.Grow(q.N[i].L, 3)
		}
		spare := tb
		for len(spare.Rows) < 12 {
			spare.Rows = append(spare.Rows, []api.Value{intOf(77)})
		}
		tb.Rows = spare.Rows[:len(tb.Rows)]
		wantT, wantQ := cloneTable(spare), cloneQuery(q)
		pred.Where(tb, q, 7)
		for _, row := range tb.Rows {
			pred.Holds(q, 7, tb.Cols, row)
		}
		if !table.Same(spare, wantT) || !reflect.DeepEqual(q, wantQ) {
			t.Fatalf("seed %d: what was handed in is not what it was", seed)
		}
	}
}

// No list of an answer is one of what was handed in, or another one of it; nor is the room behind its end.
func TestR7OwnMemory(t *testing.T) {
	row := append(make([]api.Value, 0, 9), web1()...)
	in := api.Table{Cols: append(make([]api.Col, 0, 9), loadCols()...), Rows: [][]api.Value{row, row, row[:2]}}
	want := cloneTable(in)
	q := nodes(yes())
	got := pred.Where(in, q, 0)
	if !table.Same(got, want) {
		t.Fatalf("Where is %v", got)
	}
	for k := range got.Rows {
		for at := range got.Rows[k] {
			got.Rows[k][at] = intOf(100 * k)
		}
		got.Rows[k] = append(got.Rows[k], intOf(-k))
	}
	for at := range got.Cols {
		got.Cols[at] = col("z", api.Hist)
	}
	got.Cols = append(got.Cols, col("y", api.Int))
	got.Rows = append(got.Rows, nil)
	if !table.Same(in, want) || row[:5][4] != (api.Value{}) || in.Cols[:5][4] != (api.Col{}) {
		t.Error("the answer shares what was handed in")
	}
	for k := range 3 {
		if got.Rows[k][0] != intOf(100*k) || got.Rows[k][len(want.Rows[k])] != intOf(-k) {
			t.Errorf("the row %d shares another one", k)
		}
	}
	again := pred.Where(in, q, 0)
	row[0], in.Cols[0].Name = strOf("other"), "other"
	if !table.Same(again, want) {
		t.Error("what was handed in is kept")
	}
}
