package hints_test

import (
	"math"
	"slices"
	"strconv"
	"strings"
	"testing"

	"catchment/api"
	"catchment/hints"
	"catchment/trigram"
)

type row = []api.Value

func i(n int) api.Value    { return api.Value{Kind: api.Int, N: n} }
func s(x string) api.Value { return api.Value{Kind: api.Str, S: x} }

func col(name string, kind int) api.Col { return api.Col{Name: name, Kind: kind} }

// load is the schema of the chapter's examples.
func load() api.Schema {
	return api.Schema{Name: "load", Keys: []api.Col{col("host", api.Str)}, Vals: []api.Col{col("n", api.Int)}}
}

// disk has load's columns under another name.
func disk() api.Schema {
	x := load()
	x.Name = "disk"
	return x
}

// wide has two keys and two values that are texts, between others.
func wide() api.Schema {
	return api.Schema{
		Name: "wide",
		Keys: []api.Col{col("a", api.Int), col("b", api.Str), col("c", api.Bool), col("d", api.Str)},
		Vals: []api.Col{col("e", api.Str), col("f", api.Int), col("g", api.Str), col("h", api.Hist)},
	}
}

func widePoint(b, d, e, g string) api.Point {
	return api.Point{Schema: "wide", Keys: row{i(1), s(b), {Kind: api.Bool, N: 1}, s(d)}, Vals: row{s(e), i(7), s(g), {Kind: api.Hist, H: [8]int{1}}}}
}

// at is a point of load.
func at(host string) api.Point {
	return api.Point{Schema: "load", Keys: row{s(host)}, Time: 3, Vals: row{i(5)}}
}

// withHosts is an index of points of load.
func withHosts(hosts ...string) *hints.Index {
	x := hints.New()
	for _, h := range hosts {
		x.Add(load(), at(h))
	}
	return x
}

// wholes are the fingerprints of some texts together.
func wholes(l ...string) api.Bits {
	var out api.Bits
	for _, x := range l {
		out = trigram.Join(out, trigram.Whole(x))
	}
	return out
}

func cmp(name string, how int, v api.Value) api.Node {
	return api.Node{Kind: api.PCmp, S: name, N: how, V: v}
}
func eq(text string) api.Node { return cmp("host", api.Eq, s(text)) }
func has(text string) api.Node {
	return api.Node{Kind: api.PHas, S: "host", V: s(text)}
}
func and(l ...int) api.Node { return api.Node{Kind: api.PAnd, L: l} }
func or(l ...int) api.Node  { return api.Node{Kind: api.POr, L: l} }
func not(l ...int) api.Node { return api.Node{Kind: api.PNot, L: l} }

func query(l ...api.Node) api.Query { return api.Query{N: l} }

// wantMight asks for the last node.
func wantMight(t *testing.T, x *hints.Index, name string, want bool, l ...api.Node) {
	t.Helper()
	if got := x.Might(name, query(l...), len(l)-1); got != want {
		t.Errorf("Might(%s, %v) is %v", name, l, got)
	}
}

func wantBits(t *testing.T, x *hints.Index, name, field string, want api.Bits) {
	t.Helper()
	if got := x.Bits(name, field); got != want {
		t.Errorf("Bits(%q, %q) is %x, not %x", name, field, got, want)
	}
}

func wantSeen(t *testing.T, x *hints.Index, name string, want bool) {
	t.Helper()
	if x.Seen(name) != want {
		t.Errorf("Seen(%q) is not %v", name, want)
	}
}

func TestExamples(t *testing.T) {
	x := withHosts("web", "web2")
	wantMight(t, x, "load", true, eq("web"))
	wantMight(t, x, "load", false, eq("we"))
	wantMight(t, x, "load", true, has("eb2"))
	wantMight(t, x, "load", false, has("xyz"))
	wantMight(t, x, "lat", false, eq("web"))
	wantMight(t, x, "lat", false, has(""))
	wantMight(t, x, "load", true, eq("we"), not(0))
}

func TestP10_1NewIsEmpty(t *testing.T) {
	for _, x := range []*hints.Index{hints.New(), {}, hints.New().Clone(), (&hints.Index{}).Clone()} {
		for _, name := range []string{"", "load"} {
			wantSeen(t, x, name, false)
			wantBits(t, x, name, "", api.Bits{})
			wantBits(t, x, name, "host", api.Bits{})
			if x.Might(name, query(not()), 0) || x.Might(name, api.Query{}, -1) {
				t.Errorf("there may be rows of %q in an empty index", name)
			}
		}
	}
}

func TestP10_1AddSees(t *testing.T) {
	x := hints.New()
	x.Add(load(), at("web"))
	for _, name := range []string{"", "Load", "loa", "load ", "host", "disk"} {
		wantSeen(t, x, name, false)
	}
	wantSeen(t, x, "load", true)
	x.Add(api.Schema{}, api.Point{})
	wantSeen(t, x, "", true)
	wantSeen(t, x, "disk", false)
}

// The schema's name counts, not the one that the point tells.
func TestP10_1AddGoesByTheSchema(t *testing.T) {
	x := hints.New()
	x.Add(disk(), at("web"))
	wantSeen(t, x, "disk", true)
	wantSeen(t, x, "load", false)
	wantBits(t, x, "disk", "host", wholes("web"))
	wantBits(t, x, "load", "host", api.Bits{})
}

func TestP10_1AddEachText(t *testing.T) {
	x := hints.New()
	x.Add(wide(), widePoint("beta", "delta", "eps", "gamma"))
	for field, want := range map[string]api.Bits{
		"a": {}, "b": wholes("beta"), "c": {}, "d": wholes("delta"), "e": wholes("eps"), "f": {}, "g": wholes("gamma"), "h": {}, "time": {}, "": {}, "beta": {},
	} {
		wantBits(t, x, "wide", field, want)
	}
	x.Add(wide(), widePoint("bet", "", "eps", "x"))
	for field, want := range map[string]api.Bits{
		"b": wholes("beta", "bet"), "d": wholes("delta"), "e": wholes("eps"), "g": wholes("gamma", "x"),
	} {
		wantBits(t, x, "wide", field, want)
	}
}

// A name and a field have a fingerprint together: neither another name's field, nor another field, nor both written otherwise.
func TestP10_1NamesAndFieldsApart(t *testing.T) {
	x := hints.New()
	parts := []string{"", "a", "ab", "b", "a\x00b", "\x00", "a.b", "."}
	for _, name := range parts {
		for _, field := range parts {
			sc := api.Schema{Name: name, Keys: []api.Col{col(field, api.Str)}}
			x.Add(sc, api.Point{Keys: row{s("<" + name + "|" + field + ">")}})
		}
	}
	for _, name := range parts {
		for _, field := range parts {
			wantBits(t, x, name, field, wholes("<"+name+"|"+field+">"))
		}
	}
	wantBits(t, x, "b", "ba", api.Bits{})
	wantBits(t, x, "c", "a", api.Bits{})
}

func TestP10_1BitsAreJoined(t *testing.T) {
	x := hints.New()
	var all []string
	for _, h := range []string{"web", "web2", "db-one", "", "web", "x", strings.Repeat("y", api.MaxText), strings.Repeat("long", 100), "日本語", "\xff\x00\x01"} {
		x.Add(load(), at(h))
		all = append(all, h)
		wantBits(t, x, "load", "host", wholes(all...))
	}
}

// What the column is said to be does not count, but what the value is; an Int has no text, whatever stands in its S.
func TestP10_1StrByTheValue(t *testing.T) {
	x := hints.New()
	x.Add(load(), api.Point{Keys: row{{Kind: api.Int, S: "web"}}, Vals: row{s("abc")}})
	wantBits(t, x, "load", "host", api.Bits{})
	wantBits(t, x, "load", "n", wholes("abc"))
	for _, kind := range []int{api.Int, api.Bool, api.Hist, 0, 5, -1, math.MaxInt} {
		x.Add(load(), api.Point{Keys: row{{Kind: kind, S: "web"}}})
		wantBits(t, x, "load", "host", api.Bits{})
	}
}

// As many as there are both of columns and of values, of the keys and of the values each for itself.
func TestP10_1AsManyAsBoth(t *testing.T) {
	cols := []api.Col{col("a", api.Str), col("b", api.Str), col("c", api.Str)}
	more := []api.Col{col("p", api.Str), col("q", api.Str), col("r", api.Str)}
	texts := row{s("one1"), s("two2"), s("three3")}
	for keys := range 4 {
		for vals := range 4 {
			x := hints.New()
			x.Add(api.Schema{Name: "s", Keys: cols[:keys], Vals: more[:vals]}, api.Point{Keys: texts[:vals], Vals: texts[:keys]})
			wantSeen(t, x, "s", true)
			for k := range 3 {
				var want api.Bits
				if k < min(keys, vals) {
					want = wholes(texts[k].S)
				}
				wantBits(t, x, "s", cols[k].Name, want)
				wantBits(t, x, "s", more[k].Name, want)
			}
		}
	}
}

// Columns of one name, be they keys or values, have one fingerprint.
func TestP10_1ColumnsOfOneName(t *testing.T) {
	x := hints.New()
	both := []api.Col{col("a", api.Str), col("a", api.Str)}
	x.Add(api.Schema{Name: "s", Keys: both, Vals: both}, api.Point{Keys: row{s("one"), s("two")}, Vals: row{s("three"), s("four")}})
	wantBits(t, x, "s", "a", wholes("one", "two", "three", "four"))
}

func TestP10_1Join(t *testing.T) {
	x, o := withHosts("web"), withHosts("db-one")
	o.Add(disk(), at("sda"))
	o.Add(api.Schema{Name: "bare"}, api.Point{})
	o.Add(wide(), widePoint("beta", "delta", "eps", "gamma"))
	x.Join(o)
	wantBits(t, x, "load", "host", wholes("web", "db-one"))
	wantBits(t, x, "disk", "host", wholes("sda"))
	wantBits(t, x, "wide", "g", wholes("gamma"))
	for _, name := range []string{"load", "disk", "bare", "wide"} {
		wantSeen(t, x, name, true)
	}
	wantSeen(t, x, "lat", false)
	// The other one stays.
	wantBits(t, o, "load", "host", wholes("db-one"))
	wantBits(t, o, "disk", "host", wholes("sda"))
}

func TestP10_1JoinOfNone(t *testing.T) {
	x := withHosts("web")
	x.Join(nil)
	x.Join(hints.New())
	x.Join(&hints.Index{})
	x.Join(x)
	wantSeen(t, x, "load", true)
	wantSeen(t, x, "", false)
	wantBits(t, x, "load", "host", wholes("web"))
	bare := &hints.Index{}
	bare.Join(nil)
	wantSeen(t, bare, "load", false)
	bare.Join(x)
	wantBits(t, bare, "load", "host", wholes("web"))
}

// Behind a Join each goes its own way.
func TestP10_1JoinKeepsApart(t *testing.T) {
	x, o := hints.New(), withHosts("web")
	x.Join(o)
	x.Add(load(), at("db-one"))
	x.Add(disk(), at("sda"))
	wantBits(t, o, "load", "host", wholes("web"))
	wantSeen(t, o, "disk", false)
	o.Add(load(), at("xyz"))
	o.Add(wide(), widePoint("beta", "", "", ""))
	wantBits(t, x, "load", "host", wholes("web", "db-one"))
	wantSeen(t, x, "wide", false)
}

// Whichever way round, and however often: the bits of all.
func TestP10_1JoinAnyOrder(t *testing.T) {
	l := []*hints.Index{withHosts("web"), withHosts("db-one", "x"), withHosts(), withHosts("日本語")}
	for _, order := range [][]int{{0, 1, 2, 3}, {3, 2, 1, 0}, {1, 1, 3, 0, 3, 1}} {
		x := hints.New()
		for _, k := range order {
			x.Join(l[k])
		}
		wantBits(t, x, "load", "host", wholes("web", "db-one", "x", "日本語"))
	}
}

func TestP10_2NotSeen(t *testing.T) {
	x := withHosts("web")
	q := query(eq("web"), has(""), and(0, 1), or(0, 1), not(0), api.Node{Kind: api.QFetch}, and(), and(9, 9), api.Node{})
	for k := -2; k < len(q.N)+2; k++ {
		if x.Might("lat", q, k) || x.Might("", q, k) || !x.Might("load", q, k) {
			t.Errorf("node %d", k)
		}
	}
	x.Add(api.Schema{Name: "lat"}, api.Point{})
	wantMight(t, x, "lat", false, eq("web"))
	wantMight(t, x, "lat", true, eq(""))
	wantMight(t, x, "lat", true, has("zz"))
	wantMight(t, x, "lat", true, cmp("host", api.Ne, s("web")))
}

// Eq asks for the whole text, has for a part.
func TestP10_2WholeAndPart(t *testing.T) {
	x := withHosts("web server")
	for _, c := range []struct {
		text      string
		eqs, hass bool
	}{
		{"web server", true, true}, {"web", false, true}, {"server", false, true}, {"b s", false, true}, {"", true, true}, {"w", false, true}, {"we", false, true},
		{"zz", false, true}, {"xyz", false, false}, {"web server 2", false, false}, {"Web server", false, false}, {"\x01we", false, true}, {"er\x02", false, true},
	} {
		wantMight(t, x, "load", c.eqs, eq(c.text))
		wantMight(t, x, "load", c.hass, has(c.text))
	}
}

// The column that is named counts, and the schema; a column that is not there has no bits.
func TestP10_2ByNameAndColumn(t *testing.T) {
	x := hints.New()
	x.Add(wide(), widePoint("beta", "delta", "eps", "gamma"))
	x.Add(disk(), at("beta"))
	for _, field := range []string{"a", "b", "c", "d", "e", "f", "g", "h", "host", "time", ""} {
		wantMight(t, x, "wide", field == "b", cmp(field, api.Eq, s("beta")))
		wantMight(t, x, "wide", field == "g", api.Node{Kind: api.PHas, S: field, V: s("amm")})
		wantMight(t, x, "disk", field == "host", cmp(field, api.Eq, s("beta")))
		wantMight(t, x, "wide", true, cmp(field, api.Eq, s("")))
		wantMight(t, x, "wide", true, api.Node{Kind: api.PHas, S: field, V: s("zz")})
	}
}

// Of the comparisons Eq with a Str alone can rule out.
func TestP10_2OtherComparisons(t *testing.T) {
	x := withHosts("web")
	for _, how := range []int{api.Ne, api.Lt, api.Le, api.Gt, api.Ge, 0, -1, 7, math.MaxInt, math.MinInt} {
		wantMight(t, x, "load", true, cmp("host", how, s("xyz")))
	}
	for _, kind := range []int{api.Int, api.Bool, api.Hist, 0, 5, -1} {
		wantMight(t, x, "load", true, cmp("host", api.Eq, api.Value{Kind: kind, S: "xyz"}))
		wantMight(t, x, "load", true, cmp("n", api.Eq, api.Value{Kind: kind, N: 77}))
	}
	wantMight(t, x, "load", false, cmp("n", api.Eq, s("xyz")))
}

// A has goes by its text, whatever kind stands beside it, and whatever its N.
func TestP10_2Has(t *testing.T) {
	x := withHosts("web")
	for _, n := range []int{0, api.Eq, api.Ne, -1} {
		for _, kind := range []int{api.Str, api.Int, 0} {
			for text, want := range map[string]bool{"web": true, "xyz": false, "": true} {
				wantMight(t, x, "load", want, api.Node{Kind: api.PHas, S: "host", N: n, V: api.Value{Kind: kind, S: text}})
			}
		}
	}
}

func TestP10_2AndOr(t *testing.T) {
	x := withHosts("web")
	l := []api.Node{eq("xyz"), eq("web")}
	for a := range 2 {
		for b := range 2 {
			wantMight(t, x, "load", a == 1 && b == 1, append(slices.Clone(l), and(a, b))...)
			wantMight(t, x, "load", a == 1 || b == 1, append(slices.Clone(l), or(a, b))...)
		}
	}
	q := query(eq("xyz"), eq("web"), and(0, 1), or(2, 1), and(3, 3), or(2, 0), not(4), and(6, 5), or(5, 6), and(8, 4))
	for k, want := range []bool{false, true, false, true, true, false, true, false, true, true} {
		if x.Might("load", q, k) != want {
			t.Errorf("node %d is not %v", k, want)
		}
	}
}

// A not is true, whatever stands below it: what may hold of one row may fail of another.
func TestP10_2Not(t *testing.T) {
	x := withHosts("web")
	for _, l := range [][]int{{0}, {1}, nil, {0, 1}, {9}, {-1}, {2}} {
		wantMight(t, x, "load", true, eq("web"), eq("xyz"), not(l...))
	}
	wantMight(t, x, "load", true, has(""), not(0), not(1))
	wantMight(t, x, "load", true, has("xyz"), not(0), not(1))
}

func TestP10_2OtherNodes(t *testing.T) {
	x := withHosts("web")
	for kind := -1; kind < 20; kind++ {
		if kind >= api.PAnd && kind <= api.PHas {
			continue
		}
		wantMight(t, x, "load", true, eq("xyz"), api.Node{Kind: kind, S: "host", N: api.Eq, V: s("xyz"), L: []int{0, 0}})
	}
	wantMight(t, x, "load", false, api.Node{Kind: api.QFetch}, eq("xyz"), and(0, 1))
	wantMight(t, x, "load", true, api.Node{Kind: api.QFetch}, eq("xyz"), or(0, 1))
}

func TestP10_2NoNode(t *testing.T) {
	x := withHosts("web")
	q := query(eq("xyz"), eq("xyz"))
	for _, k := range []int{-1, 2, 3, 1000, math.MaxInt, math.MinInt} {
		if !x.Might("load", q, k) || !x.Might("load", api.Query{}, k) || x.Might("lat", q, k) {
			t.Errorf("node %d", k)
		}
	}
	if !x.Might("load", api.Query{}, 0) || x.Might("load", q, 0) || x.Might("load", q, 1) {
		t.Error("nodes of a query, and of an empty one")
	}
}

// An and, or an or, of which one does not stand ahead, or that does not have just two, rules out nothing, though the rest of it would.
func TestP10_2WrongL(t *testing.T) {
	x := withHosts("web")
	no := eq("xyz")
	for _, l := range [][]int{
		nil, {0}, {0, 0, 0}, {0, 1, 0, 1}, {0, 2}, {2, 0}, {0, 3}, {3, 0}, {3, 3}, {0, 4}, {-1, 0}, {0, -1}, {2, 2}, {math.MaxInt, 0}, {0, math.MaxInt}, {math.MinInt, 0}, {0, math.MinInt},
	} {
		for _, kind := range []int{api.PAnd, api.POr} {
			q := query(no, no, api.Node{Kind: kind, L: l}, no, no)
			if !x.Might("load", q, 2) {
				t.Errorf("kind %d of %v rules out", kind, l)
			}
			q.N[2].L = []int{0, 1}
			if x.Might("load", q, 2) {
				t.Errorf("kind %d of both does not rule out", kind)
			}
		}
	}
	// Below another one it counts as true, no more.
	wantMight(t, x, "load", false, no, and(0, 7), and(0, 1))
	wantMight(t, x, "load", true, no, and(0, 7), or(0, 1))
	wantMight(t, x, "load", true, eq("web"), and(0, 7), and(0, 1))
}

// What stands behind the node that is asked for does not count.
func TestP10_2NodesBehind(t *testing.T) {
	x := withHosts("web")
	q := query(eq("web"), eq("xyz"), and(0, 0), and(1, 2))
	if !x.Might("load", q, 2) || x.Might("load", q, 3) {
		t.Error("and")
	}
}

// Each node is below the next one twice: as many ways as no call could go.
func TestP10_2ManyWays(t *testing.T) {
	x := withHosts("web")
	for text, want := range map[string]bool{"web": true, "xyz": false} {
		l := []api.Node{eq(text)}
		for k := range 200000 {
			n := and(k, k)
			if k%2 == 1 {
				n = or(k, k)
			}
			l = append(l, n)
		}
		if x.Might("load", query(l...), len(l)-1) != want {
			t.Errorf("Might of %d nodes is not %v", len(l), want)
		}
	}
}

func TestP10_3Clone(t *testing.T) {
	x := withHosts("web")
	x.Add(api.Schema{Name: "bare"}, api.Point{})
	x.Add(wide(), widePoint("beta", "delta", "eps", "gamma"))
	c := x.Clone()
	for _, name := range []string{"load", "bare", "wide"} {
		wantSeen(t, c, name, true)
	}
	wantSeen(t, c, "disk", false)
	wantBits(t, c, "load", "host", wholes("web"))
	wantBits(t, c, "wide", "e", wholes("eps"))
	wantMight(t, c, "load", true, eq("web"))
	wantMight(t, c, "load", false, eq("we"))
}

func TestP10_3CloneGoesItsOwnWay(t *testing.T) {
	x := withHosts("web")
	c := x.Clone()
	d := c.Clone()
	x.Add(load(), at("db-one"))
	x.Add(disk(), at("sda"))
	c.Add(wide(), widePoint("beta", "", "", ""))
	c.Join(withHosts("xyz"))
	wantBits(t, x, "load", "host", wholes("web", "db-one"))
	wantBits(t, c, "load", "host", wholes("web", "xyz"))
	wantBits(t, d, "load", "host", wholes("web"))
	for name, in := range map[string]*hints.Index{"disk": x, "wide": c} {
		for _, one := range []*hints.Index{x, c, d} {
			wantSeen(t, one, name, one == in)
		}
	}
	none := hints.New()
	own := none.Clone()
	own.Add(load(), at("web"))
	wantSeen(t, none, "load", false)
}

// hosts are short and long ones, with and without bits.
var hosts = []string{"web", "web2", "db-one", "", "x", "ab", "\x01\x02", "日本語", "web server"}

// holds is whether a condition holds of a host, by what the nodes mean.
func holds(q api.Query, k int, host string) bool {
	n := q.N[k]
	switch n.Kind {
	case api.PAnd:
		return holds(q, n.L[0], host) && holds(q, n.L[1], host)
	case api.POr:
		return holds(q, n.L[0], host) || holds(q, n.L[1], host)
	case api.PNot:
		return !holds(q, n.L[0], host)
	case api.PHas:
		return strings.Contains(host, n.V.S)
	}
	c := strings.Compare(host, n.V.S)
	return []bool{c == 0, c != 0, c < 0, c <= 0, c > 0, c >= 0}[n.N-1]
}

// mixed is a condition of n nodes of all sorts, the same each time for one seed.
func mixed(n int, seed uint32) api.Query {
	next := func(below int) int {
		seed = seed*1664525 + 1013904223
		return int(seed>>8) % below
	}
	texts := append(slices.Clone(hosts), "we", "eb", "eb2", "xyz", "server", "one", "zz", "b")
	var q api.Query
	for k := range n {
		node := cmp("host", 1+next(6), s(texts[next(len(texts))]))
		switch kind := next(8); {
		case kind == 0:
			node = has(node.V.S)
		case kind == 1:
			node.N = api.Eq
		case k > 1 && kind < 4:
			node = and(next(k), next(k))
		case k > 1 && kind < 6:
			node = or(next(k), next(k))
		case k > 1 && kind == 6:
			node = not(next(k))
		}
		q.N = append(q.N, node)
	}
	return q
}

// byRule is the document's rule for Might, word by word, of a name that is seen.
func byRule(bits api.Bits, q api.Query, k int) bool {
	n := q.N[k]
	switch {
	case n.Kind == api.PAnd:
		return byRule(bits, q, n.L[0]) && byRule(bits, q, n.L[1])
	case n.Kind == api.POr:
		return byRule(bits, q, n.L[0]) || byRule(bits, q, n.L[1])
	case n.Kind == api.PCmp && n.N == api.Eq:
		return trigram.Within(trigram.Whole(n.V.S), bits)
	case n.Kind == api.PHas:
		return trigram.Within(trigram.Of(n.V.S), bits)
	}
	return true
}

func TestP10_2ByTheRule(t *testing.T) {
	told := [2]int{}
	for seed := range 300 {
		own := hosts[seed%len(hosts):]
		x, q := withHosts(own...), mixed(12, uint32(seed))
		for k := range q.N {
			want := byRule(wholes(own...), q, k)
			if x.Might("load", q, k) != want {
				t.Errorf("seed %d, node %d is not %v", seed, k, want)
			}
			if want {
				told[1]++
			} else {
				told[0]++
			}
		}
	}
	if min(told[0], told[1]) < 100 {
		t.Errorf("told are %v", told)
	}
}

// What holds of a point that was added is not ruled out: whichever others there are, and behind any Join.
func TestP10_4NeverRuledOut(t *testing.T) {
	all := hints.New()
	var each []*hints.Index
	for _, h := range hosts {
		one := withHosts(h)
		each = append(each, one)
		all.Join(one)
	}
	chain := hints.New()
	for _, one := range each {
		next := one.Clone()
		next.Join(chain)
		chain = next
	}
	for seed := range 300 {
		q := mixed(12, uint32(1000+seed))
		for k := range q.N {
			for at, h := range hosts {
				if !holds(q, k, h) {
					continue
				}
				for which, x := range []*hints.Index{each[at], all, chain, withHosts(hosts...)} {
					if !x.Might("load", q, k) {
						t.Errorf("seed %d, node %d holds of %q, and is ruled out by index %d", seed, k, h, which)
					}
				}
			}
		}
	}
}

// So for texts that are values, or stand in other columns, of several points.
func TestP10_4EachColumn(t *testing.T) {
	x := hints.New()
	text := func(field string, n int) string { return field + strings.Repeat("-", n) + strconv.Itoa(n) }
	for n := range 20 {
		one := hints.New()
		one.Add(wide(), widePoint(text("b", n), text("d", n), text("e", n), text("g", n)))
		x.Join(one)
	}
	for _, field := range []string{"b", "d", "e", "g"} {
		for n := range 20 {
			whole := text(field, n)
			wantMight(t, x, "wide", true, cmp(field, api.Eq, s(whole)))
			for from := range whole {
				wantMight(t, x, "wide", true, api.Node{Kind: api.PHas, S: field, V: s(whole[from:])})
			}
		}
		wantMight(t, x, "wide", false, cmp(field, api.Eq, s("other")))
	}
}

func TestR6SameEachTime(t *testing.T) {
	x := withHosts("web", "web2")
	q := query(eq("web"), has("xyz"), or(0, 1), and(0, 1))
	for range 3 {
		for k, want := range []bool{true, false, true, false} {
			if x.Might("load", q, k) != want || x.Seen("load") != true || x.Might("lat", q, k) {
				t.Errorf("node %d", k)
			}
		}
		wantBits(t, x, "lat", "host", api.Bits{})
		wantSeen(t, x, "lat", false)
		wantBits(t, x, "load", "other", api.Bits{})
	}
}

// What is handed in stays, and what becomes of it later is not seen; so what was answered.
func TestR7OwnMemory(t *testing.T) {
	x := hints.New()
	sc, p := wide(), widePoint("beta", "delta", "eps", "gamma")
	x.Add(sc, p)
	want, wantP := wide(), widePoint("beta", "delta", "eps", "gamma")
	if !slices.Equal(sc.Keys, want.Keys) || !slices.Equal(sc.Vals, want.Vals) || !slices.Equal(p.Keys, wantP.Keys) || !slices.Equal(p.Vals, wantP.Vals) {
		t.Error("what was handed in is not what it was")
	}
	sc.Keys[1].Name, p.Keys[1].S = "z", "zeta"
	wantBits(t, x, "wide", "b", wholes("beta"))
	wantBits(t, x, "wide", "z", api.Bits{})
	got := x.Bits("wide", "b")
	got[0], got[1], got[2], got[3] = 1, 2, 3, 4
	wantBits(t, x, "wide", "b", wholes("beta"))
	q := query(has("xyz"), has("abc"), and(0, 1))
	x.Might("wide", q, 2)
	if !slices.Equal(q.N[2].L, []int{0, 1}) || q.N[0].V != s("xyz") || q.N[0].Kind != api.PHas {
		t.Error("the query is not what it was")
	}
}
