package leaf_test

import (
	"math"
	"slices"
	"strconv"
	"strings"
	"testing"

	"catchment/api"
	"catchment/leaf"
	"catchment/schema"
	"catchment/table"
	"catchment/value"
)

type row = []api.Value

func i(n int) api.Value    { return value.OfInt(n) }
func s(x string) api.Value { return value.OfStr(x) }
func b(x bool) api.Value   { return value.OfBool(x) }

func col(name string, kind int) api.Col { return api.Col{Name: name, Kind: kind} }

// load is the schema of the chapter's examples.
func load() api.Schema {
	return api.Schema{Name: "load", Keys: []api.Col{col("host", api.Str)}, Vals: []api.Col{col("n", api.Int)}}
}

// disk has load's columns under another name.
func disk() api.Schema {
	x := load()
	x.Name = "disk"
	return x
}

// wide has as many keys and values as may be, of each kind that they may be of.
func wide() api.Schema {
	return api.Schema{
		Name: "wide",
		Keys: []api.Col{col("a", api.Int), col("b", api.Str), col("c", api.Bool), col("d", api.Str)},
		Vals: []api.Col{col("e", api.Int), col("f", api.Str), col("g", api.Bool), col("h", api.Hist)},
	}
}

func all() []api.Schema { return []api.Schema{load(), disk(), wide()} }

// at is a point of load.
func at(host string, time, n int) api.Point { return of("load", host, time, n) }

func of(name, host string, time, n int) api.Point {
	return api.Point{Schema: name, Keys: row{s(host)}, Time: time, Vals: row{i(n)}}
}

func widePoint(time int) api.Point {
	return api.Point{Schema: "wide", Keys: row{i(-3), s("x"), b(true), s("y")}, Time: time, Vals: row{i(7), s("z"), b(false), value.Bucket(12)}}
}

// rowOf is the row that a point must come back as.
func rowOf(p api.Point) row { return slices.Concat(row{i(p.Time)}, p.Keys, p.Vals) }

func newLeaf(t *testing.T, room int) *leaf.Leaf {
	t.Helper()
	f, e := leaf.New(all(), room)
	if e != api.OK || f == nil {
		t.Fatalf("New = %v, %d", f, e)
	}
	return f
}

func wantWrite(t *testing.T, f *leaf.Leaf, p api.Point, want bool, wanted api.Errno) {
	t.Helper()
	if ok, e := f.Write(p); ok != want || e != wanted {
		t.Errorf("Write(%v) = %v, %d; want %v, %d", p, ok, e, want, wanted)
	}
}

func wantRows(t *testing.T, f *leaf.Leaf, x api.Schema, from, to int, want ...row) {
	t.Helper()
	got, e := f.Scan(x.Name, from, to)
	if e != api.OK || !table.Same(got, api.Table{Cols: schema.Cols(x), Rows: want}) {
		t.Errorf("Scan(%s, %d, %d) = %v, %d; want %v", x.Name, from, to, got, e, want)
	}
}

// wantAll holds a leaf to have just these points, no two of one schema, keys and time.
func wantAll(t *testing.T, f *leaf.Leaf, points ...api.Point) {
	t.Helper()
	if f.Points() != len(points) {
		t.Errorf("Points = %d, want %d", f.Points(), len(points))
	}
	for _, x := range all() {
		wantRows(t, f, x, 0, api.MaxTime, rowsWithin(points, x.Name, 0, api.MaxTime)...)
	}
}

// rowsWithin looks at each point, and sorts what it finds by a comparison of its own.
func rowsWithin(points []api.Point, name string, from, to int) []row {
	var rows []row
	for _, p := range points {
		if p.Schema == name && from <= p.Time && p.Time <= to {
			rows = append(rows, rowOf(p))
		}
	}
	slices.SortFunc(rows, func(a, b row) int { return slices.CompareFunc(a, b, value.Compare) })
	return rows
}

// firsts are of each schema, keys and time the first point: what a leaf with room must have.
func firsts(points []api.Point) []api.Point {
	var out []api.Point
	for _, p := range points {
		if !slices.ContainsFunc(out, func(o api.Point) bool {
			return o.Schema == p.Schema && o.Time == p.Time && slices.Equal(o.Keys, p.Keys)
		}) {
			out = append(out, p)
		}
	}
	return out
}

func writeAll(t *testing.T, f *leaf.Leaf, points []api.Point) {
	t.Helper()
	for k, p := range points {
		wantWrite(t, f, p, len(firsts(points[:k+1])) > len(firsts(points[:k])), api.OK)
	}
}

// some are points, some of them of the same schema, keys and time but other values; they are the same each time.
func some(n, x int) []api.Point {
	next := func(below int) int {
		x = (x*1103515245 + 12345) % (1 << 31)
		return x >> 8 % below
	}
	var l []api.Point
	for k := range n {
		if next(4) == 0 {
			p := widePoint(next(6))
			p.Keys[0], p.Keys[2], p.Vals[0] = i(next(3)-1), b(next(2) == 0), i(k)
			l = append(l, p)
		} else {
			l = append(l, of([]string{"load", "disk"}[next(2)], "h"+strconv.Itoa(next(12)), next(9), k))
		}
	}
	return l
}

func withRoom[E any](l []E, spare E) []E {
	out := append(slices.Clip(slices.Clone(l)), spare, spare)
	return out[:len(l)]
}

func scribble[E any](l []E, with E) {
	for k := range l[:cap(l)] {
		l[:cap(l)][k] = with
	}
}

func scribbleTable(x api.Table) {
	scribble(x.Cols, col("scribble", 99))
	for _, r := range x.Rows {
		scribble(r, s("scribble"))
	}
	scribble(x.Rows, row{s("scribble")})
}

func TestExamples(t *testing.T) {
	f, e := leaf.New([]api.Schema{load()}, 2)
	if e != api.OK {
		t.Fatal(e)
	}
	wantWrite(t, f, at("a", 5, 7), true, api.OK)
	wantWrite(t, f, at("a", 5, 8), false, api.OK)
	wantWrite(t, f, at("b", 3, 1), true, api.OK)
	wantWrite(t, f, at("c", 1, 1), false, api.ErrFull)
	wantRows(t, f, load(), 0, 9, row{i(3), s("b"), i(1)}, row{i(5), s("a"), i(7)})
	wantRows(t, f, load(), 4, 9, row{i(5), s("a"), i(7)})
	wantNoSchema(t, f, "x")
}

func wantNoSchema(t *testing.T, f *leaf.Leaf, name string) {
	t.Helper()
	for _, ends := range [][2]int{{0, 9}, {9, 0}, {math.MinInt, math.MaxInt}} {
		if got, e := f.Scan(name, ends[0], ends[1]); e != api.ErrSchema || got.Cols != nil || got.Rows != nil {
			t.Errorf("Scan(%q, %v) = %v, %d; want nothing, and ErrSchema", name, ends, got, e)
		}
	}
}

func TestP8_1NewRefuses(t *testing.T) {
	noWord, noKeys, histKey, twice := load(), load(), load(), load()
	noWord.Name = "time"
	noKeys.Keys = nil
	histKey.Keys[0].Kind = api.Hist
	twice.Vals[0].Name = "host"
	var nine []api.Schema
	for k := range api.MaxSchemas + 1 {
		x := load()
		x.Name = "x" + strconv.Itoa(k)
		nine = append(nine, x)
	}
	for what, l := range map[string][]api.Schema{
		"none": nil, "an empty list": {}, "two of a name": {load(), wide(), load()}, "nine": nine, "a schema of nothing": {{}},
		"no word": {noWord}, "no keys": {wide(), noKeys}, "a Hist as a key": {histKey}, "a name twice": {twice},
	} {
		for _, room := range []int{-1, 0, 5} {
			if f, e := leaf.New(l, room); f != nil || e != api.ErrSchema {
				t.Errorf("New of %s = %v, %d; want nil, and ErrSchema", what, f, e)
			}
		}
	}
	f, e := leaf.New(nine[:api.MaxSchemas], 1)
	if e != api.OK {
		t.Fatalf("New of eight = %d", e)
	}
	wantWrite(t, f, of("x7", "a", 0, 0), true, api.OK)
	wantRows(t, f, nine[7], 0, 0, row{i(0), s("a"), i(0)})
}

func TestP8_1NewIsEmpty(t *testing.T) {
	for _, room := range []int{math.MinInt, -1, 0, 1, math.MaxInt} {
		wantAll(t, newLeaf(t, room))
	}
}

func TestP8_1Room(t *testing.T) {
	for _, x := range []struct{ room, fit int }{{math.MinInt, 0}, {-1, 0}, {0, 0}, {1, 1}, {2, 2}, {7, 7}, {9, 9}, {10, 9}, {math.MaxInt, 9}} {
		f := newLeaf(t, x.room)
		var points []api.Point
		for k := range 9 {
			p := of([]string{"load", "disk"}[k%2], "h"+strconv.Itoa(k/4), k, k)
			if k < x.fit {
				points = append(points, p)
				wantWrite(t, f, p, true, api.OK)
			} else {
				wantWrite(t, f, p, false, api.ErrFull)
			}
			wantAll(t, f, points...)
		}
	}
}

// Room is for points, of whichever schemas and keys they are.
func TestP8_1RoomForPointsOfOneStream(t *testing.T) {
	f := newLeaf(t, 300)
	for k := range 300 {
		wantWrite(t, f, at("a", k*7%300, k), true, api.OK)
	}
	wantWrite(t, f, at("a", 300, 0), false, api.ErrFull)
	wantWrite(t, f, at("b", 5, 0), false, api.ErrFull)
	wantWrite(t, f, of("disk", "a", 5, 0), false, api.ErrFull)
	wantWrite(t, f, at("a", 299, 0), false, api.OK)
	if f.Points() != 300 {
		t.Errorf("Points = %d", f.Points())
	}
}

func TestP8_1FirstStays(t *testing.T) {
	for _, room := range []int{2, 3} {
		f := newLeaf(t, room)
		first, second := widePoint(4), at("a", 4, 1)
		wantWrite(t, f, first, true, api.OK)
		wantWrite(t, f, second, true, api.OK)
		for k := range 4 {
			again := widePoint(4)
			again.Vals[k] = []api.Value{i(99), s("other"), b(true), value.Bucket(0)}[k]
			wantWrite(t, f, again, false, api.OK)
		}
		wantWrite(t, f, first, false, api.OK)
		wantWrite(t, f, at("a", 4, 2), false, api.OK)
		wantAll(t, f, first, second)
	}
}

// Points of another schema, or another time, or with one key that is another one, are others.
func TestP8_1OtherPoints(t *testing.T) {
	points := []api.Point{at("a", 5, 1), of("disk", "a", 5, 1), at("a", 6, 1), at("a", 4, 1), at("b", 5, 1), at("", 5, 1), at("a\x00", 5, 1), at("\x00a", 5, 1), at("A", 5, 1)}
	for k, other := range []api.Value{i(3), s("xy"), b(false), s("")} {
		p := widePoint(5)
		p.Keys[k] = other
		points = append(points, p)
	}
	for _, keys := range [][2]string{{"a", "bc"}, {"ab", "c"}, {"abc", ""}, {"", "abc"}, {"\x01", "\x01"}, {"\x01\x02\x01", ""}} {
		p := widePoint(5)
		p.Keys[1], p.Keys[3] = s(keys[0]), s(keys[1])
		points = append(points, p)
	}
	points = append(points, widePoint(5))
	f := newLeaf(t, len(points))
	writeAll(t, f, points)
	wantAll(t, f, points...)
	for _, p := range points {
		wantWrite(t, f, p, false, api.OK)
	}
	wantAll(t, f, points...)
}

func TestP8_1Times(t *testing.T) {
	f := newLeaf(t, 9)
	for _, time := range []int{math.MinInt, -api.MaxTime, -1, api.MaxTime, api.MaxTime + 1, math.MaxInt} {
		wantWrite(t, f, at("a", time, 1), false, api.ErrPoint)
	}
	wantAll(t, f)
	edges := []api.Point{at("a", api.MaxTime-1, 1), at("a", 0, 2), at("a", 1, 3), at("b", 0, 4)}
	writeAll(t, f, edges)
	wantAll(t, f, edges...)
}

// wrongs are points that Fits refuses, with its error.
func wrongs() map[api.Errno][]api.Point {
	change := func(how func(*api.Point)) api.Point {
		p := widePoint(5)
		how(&p)
		return p
	}
	long := api.Value{Kind: api.Str, S: strings.Repeat("z", api.MaxText+1)}
	return map[api.Errno][]api.Point{
		api.ErrSchema: {{}, {Schema: "x"}, of("loads", "a", 5, 7), of("", "a", 5, 7), of("Load", "a", -5, 7), {Schema: "host", Time: -1}},
		api.ErrPoint: {
			{Schema: "load"}, at("a", -1, 7), at("a", api.MaxTime, 7), {Schema: "load", Keys: row{i(1)}, Vals: row{i(1)}}, {Schema: "load", Keys: row{s("a")}, Vals: row{s("a")}},
			change(func(p *api.Point) { p.Keys = nil }), change(func(p *api.Point) { p.Vals = nil }),
			change(func(p *api.Point) { p.Keys = p.Keys[:3] }), change(func(p *api.Point) { p.Vals = append(p.Vals, i(1)) }),
			change(func(p *api.Point) { p.Keys[1] = long }), change(func(p *api.Point) { p.Vals[1] = long }),
			change(func(p *api.Point) { p.Keys[2].N = 2 }), change(func(p *api.Point) { p.Vals[3].S = "x" }),
			change(func(p *api.Point) { p.Keys[3] = api.Value{} }), change(func(p *api.Point) { p.Vals[0].Kind = 9 }),
		},
	}
}

// A point that does not fit is told as that, be there room or not, and nothing comes of it.
func TestP8_1WriteRefuses(t *testing.T) {
	for _, room := range []int{-1, 0, 1, 9} {
		f := newLeaf(t, room)
		var points []api.Point
		if ok, _ := f.Write(widePoint(5)); ok {
			points = append(points, widePoint(5))
		}
		for e, l := range wrongs() {
			for _, p := range l {
				wantWrite(t, f, p, false, e)
				wantAll(t, f, points...)
			}
		}
	}
}

// Where there is no room, nothing is left behind of what was refused.
func TestP8_1FullChangesNothing(t *testing.T) {
	f := newLeaf(t, 2)
	points := []api.Point{at("a", 5, 7), widePoint(2)}
	writeAll(t, f, points)
	for range 3 {
		for k := range 20 {
			wantWrite(t, f, at("h"+strconv.Itoa(k), k, k), false, api.ErrFull)
			wantWrite(t, f, at("a", 6+k, k), false, api.ErrFull)
			wantWrite(t, f, of("disk", "a", 5, k), false, api.ErrFull)
			wantWrite(t, f, at("a", 5, k), false, api.OK)
		}
		wantAll(t, f, points...)
	}
	wantAll(t, f.Clone(), points...)
}

func TestP8_2Columns(t *testing.T) {
	f := newLeaf(t, 9)
	for range 2 {
		got, e := f.Scan("wide", 0, 9)
		want := []api.Col{col("time", api.Int), col("a", api.Int), col("b", api.Str), col("c", api.Bool), col("d", api.Str),
			col("e", api.Int), col("f", api.Str), col("g", api.Bool), col("h", api.Hist)}
		if e != api.OK || !slices.Equal(got.Cols, want) {
			t.Errorf("Scan has the columns %v, %d", got.Cols, e)
		}
		wantWrite(t, f, widePoint(f.Points()), true, api.OK)
	}
	got, _ := f.Scan("wide", 0, 9)
	if e := table.Check(got); e != api.OK || len(got.Rows) != 2 {
		t.Errorf("Scan = %v, which Check takes as %d", got, e)
	}
	wantRows(t, f, load(), 0, 9)
	wantRows(t, f, disk(), 0, 9)
}

func TestP8_2NoSuchSchema(t *testing.T) {
	f := newLeaf(t, 9)
	for range 2 {
		for _, name := range []string{"", "x", "loads", "loa", "Load", "load ", "host", "time"} {
			wantNoSchema(t, f, name)
		}
		f.Write(at("a", 5, 7))
		f.Write(of("loads", "a", 5, 7))
	}
}

func TestP8_2Ends(t *testing.T) {
	f := newLeaf(t, 99)
	var points []api.Point
	for _, time := range []int{api.MaxTime - 1, 7, 0, 1, 5, 6, api.MaxTime - 2} {
		for _, host := range []string{"b", "a"} {
			points = append(points, at(host, time, time), of("disk", host, time/2, 3))
		}
	}
	points = firsts(points)
	for _, p := range points {
		wantWrite(t, f, p, true, api.OK)
	}
	ends := []int{math.MinInt, -1, 0, 1, 2, 4, 5, 6, 7, 8, api.MaxTime / 2, api.MaxTime - 3, api.MaxTime - 2, api.MaxTime - 1, api.MaxTime, math.MaxInt}
	for _, from := range ends {
		for _, to := range ends {
			for _, x := range all() {
				wantRows(t, f, x, from, to, rowsWithin(points, x.Name, from, to)...)
			}
		}
	}
}

// Rows rise by time, then by keys, be they numbers or bytes, and not as streams came.
func TestP8_2CanonicalOrder(t *testing.T) {
	f := newLeaf(t, 99)
	for _, p := range []api.Point{at("b", 10, 1), at("a", 9, 2), at("b", 9, 1), at("é", 9, 0), at("a", 10, 5), at("B", 9, 9), at("", 9, 9), at("ab", 9, 0)} {
		wantWrite(t, f, p, true, api.OK)
	}
	wantRows(t, f, load(), 0, 99,
		row{i(9), s(""), i(9)}, row{i(9), s("B"), i(9)}, row{i(9), s("a"), i(2)}, row{i(9), s("ab"), i(0)}, row{i(9), s("b"), i(1)}, row{i(9), s("é"), i(0)},
		row{i(10), s("a"), i(5)}, row{i(10), s("b"), i(1)})
	var want []row
	for _, n := range []int{10, 9, math.MaxInt, 0, -1, -10, math.MinInt} {
		for _, c := range []bool{true, false} {
			p := widePoint(3)
			p.Keys[0], p.Keys[2] = i(n), b(c)
			wantWrite(t, f, p, true, api.OK)
		}
	}
	for _, n := range []int{math.MinInt, -10, -1, 0, 9, 10, math.MaxInt} {
		for _, c := range []bool{false, true} {
			p := widePoint(3)
			p.Keys[0], p.Keys[2] = i(n), b(c)
			want = append(want, rowOf(p))
		}
	}
	wantRows(t, f, wide(), 3, 3, want...)
}

// However often it is asked, the same is told, and nothing changes.
func TestP8_2ScanIsTheSameEachTime(t *testing.T) {
	f := newLeaf(t, 999)
	points := firsts(some(300, 5))
	writeAll(t, f, points)
	for range 5 {
		for _, g := range []*leaf.Leaf{f, f.Clone()} {
			for from := range 9 {
				wantRows(t, g, disk(), from, from+2, rowsWithin(points, "disk", from, from+2)...)
			}
			wantAll(t, g, points...)
		}
	}
}

func TestP8_2ManyPoints(t *testing.T) {
	f := newLeaf(t, 20000)
	for k := range 20000 {
		x := k * 7919 % 20000
		wantWrite(t, f, at("h"+strconv.Itoa(x%10), x/10, x), true, api.OK)
	}
	got, e := f.Scan("load", 0, 1999)
	if e != api.OK || len(got.Rows) != 20000 || f.Points() != 20000 {
		t.Fatalf("%d rows, %d", len(got.Rows), e)
	}
	for k, r := range got.Rows {
		if !slices.Equal(r, row{i(k / 10), s("h" + strconv.Itoa(k%10)), i(k)}) {
			t.Fatalf("row %d is %v", k, r)
		}
	}
}

func TestP8_3CloneIsTheSame(t *testing.T) {
	for _, n := range []int{0, 1, 2, 50, 400} {
		points := firsts(some(n, 3))
		f := newLeaf(t, len(points))
		writeAll(t, f, points)
		c := f.Clone().Clone()
		wantAll(t, c, points...)
		for _, p := range points {
			wantWrite(t, c, p, false, api.OK)
		}
		wantWrite(t, c, at("late", 1, 1), false, api.ErrFull)
		wantNoSchema(t, c, "x")
		wantAll(t, c, points...)
	}
}

func TestP8_3ClonesGoTheirWay(t *testing.T) {
	for _, n := range []int{0, 1, 3, 60} {
		both := firsts(some(n, 7))
		f := newLeaf(t, len(both)+4)
		writeAll(t, f, both)
		c := f.Clone()
		inF := append(slices.Clip(both), at("h1", 100, 1), at("onlyf", 0, 1), of("disk", "onlyf", 0, 1), at("both", 5, 1))
		inC := append(slices.Clip(both), at("h1", 101, 2), at("onlyc", 0, 2), of("disk", "onlyc", 0, 2), at("both", 5, 2))
		for k := range 4 {
			wantWrite(t, f, inF[len(both)+k], true, api.OK)
			wantAll(t, c, inC[:len(both)+k]...)
			wantWrite(t, c, inC[len(both)+k], true, api.OK)
			wantAll(t, f, inF[:len(both)+k+1]...)
		}
		wantWrite(t, f, at("onlyc", 0, 2), false, api.ErrFull)
		wantWrite(t, c, at("onlyf", 0, 1), false, api.ErrFull)
		wantAll(t, f, inF...)
		wantAll(t, c, inC...)
	}
}

// A stream that both have grows in each on its own.
func TestP8_3ClonesOfALongStream(t *testing.T) {
	f := newLeaf(t, 3000)
	var both []api.Point
	for k := range 600 {
		both = append(both, at("a", 3*k, k))
		f.Write(both[k])
	}
	c := f.Clone()
	inF, inC := slices.Clip(both), slices.Clip(both)
	for k := range 600 {
		inF, inC = append(inF, at("a", 3*k+1, -1)), append(inC, at("a", 3*k+1, -2))
		wantWrite(t, f, inF[600+k], true, api.OK)
		wantWrite(t, c, inC[600+k], true, api.OK)
	}
	wantAll(t, f, inF...)
	wantAll(t, c, inC...)
}

func TestP8_4TwiceIsOnce(t *testing.T) {
	points := firsts(some(80, 11))
	for _, room := range []int{len(points), len(points) + 1, math.MaxInt} {
		f := newLeaf(t, room)
		for _, p := range points {
			wantWrite(t, f, p, true, api.OK)
			wantWrite(t, f, p, false, api.OK)
		}
		for _, p := range points {
			wantWrite(t, f, p, false, api.OK)
		}
		wantAll(t, f, points...)
	}
}

func TestP8_4AnyOrder(t *testing.T) {
	points := []api.Point{at("a", 5, 1), at("b", 5, 2), at("a", 4, 3), of("disk", "a", 5, 4), widePoint(5)}
	var permute func(k int)
	permute = func(k int) {
		if k == len(points) {
			f := newLeaf(t, len(points))
			writeAll(t, f, points)
			wantAll(t, f, points...)
			return
		}
		for other := k; other < len(points); other++ {
			points[k], points[other] = points[other], points[k]
			permute(k + 1)
			points[k], points[other] = points[other], points[k]
		}
	}
	permute(0)
}

func TestP8_4AnyOrderOfMany(t *testing.T) {
	points := firsts(some(400, 13))
	back := slices.Clone(points)
	slices.Reverse(back)
	half := len(points) / 2
	for _, order := range [][]api.Point{points, back, slices.Concat(points[half:], points[:half]), slices.Concat(back[half:], points[half:])} {
		f := newLeaf(t, len(points))
		writeAll(t, f, order)
		wantAll(t, f, firsts(order)...)
	}
}

// Of the same schema, keys and time the first one stays, whatever stands between; beyond the room none is added, but those that are there are known.
func TestP8_4FirstOfMany(t *testing.T) {
	points := some(700, 17)
	there := firsts(points)
	if len(there) > 300 {
		t.Fatalf("%d of %d are others", len(there), len(points))
	}
	for _, room := range []int{1, 10, len(there) - 1, len(there), 999} {
		f := newLeaf(t, room)
		var kept []api.Point
		for _, p := range points {
			more := firsts(append(slices.Clip(kept), p))
			switch {
			case len(more) == len(kept):
				wantWrite(t, f, p, false, api.OK)
			case len(kept) >= room:
				wantWrite(t, f, p, false, api.ErrFull)
			default:
				wantWrite(t, f, p, true, api.OK)
				kept = more
			}
		}
		wantAll(t, f, kept...)
	}
}

func TestHandedInStays(t *testing.T) {
	l := withRoom(all(), api.Schema{Name: "spare"})
	for k := range l {
		l[k].Keys, l[k].Vals = withRoom(l[k].Keys, col("spare", 1)), withRoom(l[k].Vals, col("spare", 1))
	}
	f, _ := leaf.New(l, 9)
	p := widePoint(5)
	p.Keys, p.Vals = withRoom(p.Keys, s("spare")), withRoom(p.Vals, s("spare"))
	for range 2 {
		f.Write(p)
		f.Clone().Write(p)
		f.Scan("wide", 0, 9)
	}
	spare := row{s("spare"), s("spare")}
	if !slices.Equal(p.Keys[:6], append(widePoint(5).Keys, spare...)) || !slices.Equal(p.Vals[:6], append(widePoint(5).Vals, spare...)) {
		t.Errorf("the point that was handed in is now %v", p)
	}
	for k, x := range append(all(), api.Schema{Name: "spare"}) {
		got := l[:cap(l)][k]
		room := got.Keys[len(got.Keys):cap(got.Keys)]
		if got.Name != x.Name || !slices.Equal(got.Keys, x.Keys) || !slices.Equal(got.Vals, x.Vals) || len(room) > 0 && room[0] != col("spare", 1) {
			t.Errorf("the schema that was handed in is now %v", got)
		}
	}
}

// What is done with a list once it was handed in is not seen.
func TestHandedInIsNotKept(t *testing.T) {
	l := all()
	f, _ := leaf.New(l, 9)
	c := f.Clone()
	for k := range l {
		scribble(l[k].Keys, col("scribble", api.Hist))
		scribble(l[k].Vals, col("scribble", api.Bool))
	}
	scribble(l, api.Schema{Name: "scribble"})
	for _, g := range []*leaf.Leaf{f, c} {
		p := widePoint(5)
		wantWrite(t, g, p, true, api.OK)
		scribble(p.Keys, i(99))
		scribble(p.Vals, i(99))
		wantWrite(t, g, widePoint(5), false, api.OK)
		wantAll(t, g, widePoint(5))
		wantNoSchema(t, g, "scribble")
	}
}

func TestAnsweredIsOwn(t *testing.T) {
	f := newLeaf(t, 99)
	points := []api.Point{at("a", 5, 1), at("a", 6, 2), at("b", 5, 3), widePoint(1), widePoint(2)}
	writeAll(t, f, points)
	c := f.Clone()
	for range 2 {
		for _, g := range []*leaf.Leaf{f, c} {
			for _, x := range all() {
				got, _ := g.Scan(x.Name, 0, 9)
				again, _ := g.Scan(x.Name, 0, 9)
				scribbleTable(got)
				if !slices.EqualFunc(again.Rows, rowsWithin(points, x.Name, 0, 9), slices.Equal[row]) || !slices.Equal(again.Cols, schema.Cols(x)) {
					t.Errorf("%v, once another answer was written over", again)
				}
			}
		}
		wantAll(t, f, points...)
		wantAll(t, c, points...)
	}
	wantWrite(t, f, widePoint(2), false, api.OK)
}

// No two rows of an answer share memory, those of one stream neither.
func TestAnsweredRowsAreApart(t *testing.T) {
	f := newLeaf(t, 99)
	points := []api.Point{widePoint(1), widePoint(2), widePoint(3)}
	writeAll(t, f, points)
	for k := range points {
		got, _ := f.Scan("wide", 0, 9)
		scribble(got.Rows[k], s("scribble"))
		for other, p := range points {
			if other != k && !slices.Equal(got.Rows[other], rowOf(p)) {
				t.Errorf("row %d is %v, once row %d was written over", other, got.Rows[other], k)
			}
		}
	}
}

// Two leaves of the same schemas have nothing to do with each other.
func TestLeavesAreApart(t *testing.T) {
	f, g := newLeaf(t, 2), newLeaf(t, 2)
	wantWrite(t, f, at("a", 5, 1), true, api.OK)
	wantAll(t, g)
	wantWrite(t, g, at("a", 5, 2), true, api.OK)
	wantAll(t, f, at("a", 5, 1))
	wantAll(t, g, at("a", 5, 2))
}

// A leaf that New did not make has no schemas.
func TestBareLeaf(t *testing.T) {
	var bare leaf.Leaf
	for _, f := range []*leaf.Leaf{&bare, bare.Clone()} {
		wantWrite(t, f, at("a", 5, 1), false, api.ErrSchema)
		wantNoSchema(t, f, "load")
		if f.Points() != 0 {
			t.Errorf("Points = %d", f.Points())
		}
	}
}
