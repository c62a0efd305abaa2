package streams_test

import (
	"math"
	"slices"
	"strconv"
	"strings"
	"testing"

	"catchment/api"
	"catchment/streams"
	"catchment/value"
)

// entry is a stream, as the tests have it.
type entry struct {
	name string
	keys []api.Value
}

func ints(l ...int) []api.Value {
	var keys []api.Value
	for _, n := range l {
		keys = append(keys, value.OfInt(n))
	}
	return keys
}

func texts(l ...string) []api.Value {
	var keys []api.Value
	for _, s := range l {
		keys = append(keys, value.OfStr(s))
	}
	return keys
}

func hist(h [8]int) api.Value { return api.Value{Kind: api.Hist, H: h} }

// others are streams of which no two are the same, many of them made of the same bytes.
func others() []entry {
	no, yes := value.OfBool(false), value.OfBool(true)
	long := strings.Repeat("z", 64)
	l := []entry{
		{"", nil}, {"a", nil}, {"b", nil}, {"ab", nil}, {"A", nil}, {"a ", nil}, {" ", nil}, {"\x00", nil}, {"\x00\x00", nil}, {"a\x00", nil}, {"\x00a", nil},
		{"", texts("")}, {"", texts("", "")}, {"", texts("", "", "")}, {"", texts("a")}, {"a", texts("")}, {"a", texts("", "")},
		{"a", texts("b")}, {"ab", texts("")}, {"", texts("ab")}, {"b", texts("a")},
		{"a", texts("ab", "c")}, {"a", texts("a", "bc")}, {"a", texts("abc")}, {"a", texts("abc", "")}, {"a", texts("", "abc")}, {"abc", texts("a")}, {"a", texts("a", "b", "c")},
		{"a", texts("\x00")}, {"a\x00", texts("")}, {"a", texts("\x00a")}, {"a\x00a", nil}, {"\x00a", texts("a")}, {"a", texts("\x01")}, {"a", texts("\x02\x01")},
		{"\x02\x01a", nil}, {"\x02\x01a\x00", nil}, {"\x02\x00\x00a", nil}, {"\x02\x00", nil}, {"\x00\x02\x00", nil},
		{"a\x02\x01b", nil}, {"a\x00\x02\x01b", nil}, {"a\x02\x01b\x00", nil}, {"a\x01b", nil}, {"1", nil}, {"a1", nil}, {"a 1", nil}, {"a,1", nil}, {`a"b"`, nil},
		{"a", texts("1")}, {"a", texts("-1")}, {"a", texts("true")}, {"a", texts("false")}, {"a", texts("0")},
		{"a", ints(0)}, {"a", ints(1)}, {"a", ints(-1)}, {"a", ints(2)}, {"a", ints(256)}, {"a", ints(1 << 32)}, {"a", ints(1 << 56)}, {"a", ints(math.MaxInt)}, {"a", ints(math.MinInt)},
		{"b", ints(1)}, {"", ints(1)}, {"a", ints(1, 1)}, {"a", ints(1, 2)}, {"a", ints(2, 1)}, {"a", ints(1, 1, 1)}, {"a", ints(12)}, {"a", ints(1, 23)}, {"a", ints(12, 3)},
		{"a", []api.Value{no}}, {"a", []api.Value{yes}}, {"a", []api.Value{no, yes}}, {"a", []api.Value{yes, no}},
		{"a", []api.Value{hist([8]int{})}}, {"a", []api.Value{hist([8]int{1})}}, {"a", []api.Value{hist([8]int{7: 1})}}, {"a", []api.Value{hist([8]int{1, 2, 3, 4, 5, 6, 7, 8})}},
		{"a", []api.Value{hist([8]int{}), hist([8]int{})}}, {"a", []api.Value{hist([8]int{-1, math.MinInt})}},
		{"a", ints(0, 0, 0, 0, 0, 0, 0, 0)}, {"a", ints(1, 2, 3, 4, 5, 6, 7, 8)}, {"a", texts(strings.Repeat("\x00", 64))}, {"a", texts(strings.Repeat("\x00", 8))}, {"a", texts("\x00\x00\x00\x00\x00\x00\x00\x01")},
		{"a", texts(long)}, {"a", texts(long[1:])}, {"a", texts(long, long)}, {long + long, texts("a")}, {"a", texts("\xff\xfe")}, {"a", texts("é")}, {"a\xff", nil}, {"a\xfe", nil},
		{"a", []api.Value{value.OfInt(1), value.OfStr("x")}}, {"a", []api.Value{value.OfStr("x"), value.OfInt(1)}},
		{"a", []api.Value{value.OfInt(1), yes}}, {"a", []api.Value{yes, value.OfInt(1)}},
	}
	for _, n := range []int{100, 255, 256, 257, 300} {
		l = append(l, entry{"many", ints(make([]int, n)...)}, entry{strings.Repeat("n", n), nil}, entry{strings.Repeat("n", n), ints(0)})
	}
	return l
}

// wrongKeys are values that are not valid, each of which some careless text would take for a valid one.
func wrongKeys() []api.Value {
	return []api.Value{
		{}, {Kind: 5}, {Kind: -1}, {Kind: 257}, {Kind: 258, S: "x"}, {Kind: math.MinInt}, {Kind: math.MaxInt}, {N: 1}, {S: "x"},
		{Kind: api.Int, N: 1, S: "x"}, {Kind: api.Int, H: [8]int{1}}, {Kind: api.Str, N: 1}, {Kind: api.Str, S: "x", H: [8]int{7: 1}}, {Kind: api.Str, S: strings.Repeat("z", 65)},
		{Kind: api.Str, S: strings.Repeat("z", 256)}, {Kind: api.Bool, N: 2}, {Kind: api.Bool, N: -1}, {Kind: api.Bool, N: 256}, {Kind: api.Bool, S: "x"}, {Kind: api.Hist, N: 1}, {Kind: api.Hist, S: "x"},
	}
}

// withRoom is a copy with spare room behind its end, and something in that room.
func withRoom(keys []api.Value) []api.Value {
	spare := value.OfStr("spare")
	out := append(slices.Clip(slices.Clone(keys)), spare, spare)
	return out[:len(keys)]
}

func scribble[E any](l []E, with E) {
	for k := range l[:cap(l)] {
		l[:cap(l)][k] = with
	}
}

func wantAdd(t *testing.T, d *streams.Dict, name string, keys []api.Value, id int, e api.Errno) {
	t.Helper()
	if got, err := d.Add(name, keys); got != id || err != e {
		t.Errorf("Add(%q, %v) = %d, %d; want %d, %d", name, keys, got, err, id, e)
	}
}

func wantFind(t *testing.T, d *streams.Dict, name string, keys []api.Value, id int, found bool) {
	t.Helper()
	if got, is := d.Find(name, keys); got != id || is != found {
		t.Errorf("Find(%q, %v) = %d, %v; want %d, %v", name, keys, got, is, id, found)
	}
}

// wantAll holds a dictionary to have just these streams, numbered as they stand.
func wantAll(t *testing.T, d *streams.Dict, want []entry) {
	t.Helper()
	if d.Len() != len(want) {
		t.Errorf("Len = %d, want %d", d.Len(), len(want))
	}
	ofName := map[string][]int{}
	for id, w := range want {
		ofName[w.name] = append(ofName[w.name], id)
		wantFind(t, d, w.name, w.keys, id, true)
		if name, keys, found := d.Keys(id); name != w.name || !slices.Equal(keys, w.keys) || !found {
			t.Errorf("Keys(%d) = %q, %v, %v; want %q, %v", id, name, keys, found, w.name, w.keys)
		}
	}
	for name, ids := range ofName {
		if got := d.Of(name); !slices.Equal(got, ids) {
			t.Errorf("Of(%q) = %v, want %v", name, got, ids)
		}
	}
	wantNoKeys(t, d, len(want))
}

func wantNoKeys(t *testing.T, d *streams.Dict, id int) {
	t.Helper()
	if name, keys, found := d.Keys(id); name != "" || len(keys) != 0 || found {
		t.Errorf("Keys(%d) = %q, %v, %v; want nothing, and false", id, name, keys, found)
	}
}

func filled(t *testing.T, most int, l []entry) *streams.Dict {
	t.Helper()
	d := streams.New(most)
	for id, x := range l {
		wantAdd(t, d, x.name, x.keys, id, api.OK)
	}
	return d
}

func TestExamples(t *testing.T) {
	d := streams.New(2)
	wantAdd(t, d, "a", ints(1), 0, api.OK)
	wantAdd(t, d, "a", ints(2), 1, api.OK)
	wantAdd(t, d, "a", ints(1), 0, api.OK)
	wantAdd(t, d, "b", ints(1), 0, api.ErrFull)
	wantFind(t, d, "a", ints(2), 1, true)
	wantFind(t, d, "a", ints(3), 0, false)
	if got := d.Of("a"); !slices.Equal(got, []int{0, 1}) {
		t.Errorf("Of(a) = %v", got)
	}
	if name, keys, found := d.Keys(1); name != "a" || !slices.Equal(keys, ints(2)) || !found {
		t.Errorf("Keys(1) = %q, %v, %v", name, keys, found)
	}
}

func TestP6_1NewIsEmpty(t *testing.T) {
	for _, most := range []int{math.MinInt, -1, 0, 1, 5, math.MaxInt} {
		d := streams.New(most)
		wantAll(t, d, nil)
		for _, x := range others() {
			wantFind(t, d, x.name, x.keys, 0, false)
			if got := d.Of(x.name); len(got) != 0 {
				t.Errorf("New(%d): Of(%q) = %v", most, x.name, got)
			}
		}
	}
}

func TestP6_1Room(t *testing.T) {
	for most, room := range map[int]int{math.MinInt: 0, -5: 0, -1: 0, 0: 0, 1: 1, 2: 2, 7: 7, 64: 64} {
		d := streams.New(most)
		var want []entry
		for n := range room {
			want = append(want, entry{"s", ints(n)})
			wantAdd(t, d, "s", ints(n), n, api.OK)
		}
		for range 2 {
			wantAdd(t, d, "s", ints(room), 0, api.ErrFull)
			wantAdd(t, d, "", nil, 0, api.ErrFull)
			wantFind(t, d, "s", ints(room), 0, false)
			wantFind(t, d, "", nil, 0, false)
			wantAll(t, d, want)
		}
	}
}

func TestP6_1RoomBeyondUse(t *testing.T) {
	d := streams.New(math.MaxInt)
	for n := range 3000 {
		wantAdd(t, d, "s"+strconv.Itoa(n%7), ints(n/7), n, api.OK)
	}
	if d.Len() != 3000 {
		t.Errorf("Len = %d", d.Len())
	}
	for n := range 3000 {
		wantFind(t, d, "s"+strconv.Itoa(n%7), ints(n/7), n, true)
	}
}

func TestP6_1WithoutNew(t *testing.T) {
	var d streams.Dict
	wantAdd(t, &d, "a", ints(1), 0, api.ErrFull)
	wantAdd(t, d.Clone(), "a", ints(1), 0, api.ErrFull)
	wantFind(t, &d, "a", ints(1), 0, false)
	wantAll(t, &d, nil)
}

func TestP6_1WrongKeys(t *testing.T) {
	l := others()
	d := filled(t, 1000, l)
	for _, v := range wrongKeys() {
		for _, keys := range [][]api.Value{{v}, {value.OfInt(1), v}, {v, value.OfInt(1)}, {v, v}, append(ints(make([]int, 300)...), v)} {
			wantAdd(t, d, "a", keys, 0, api.ErrKind)
			wantAdd(t, d, "", keys, 0, api.ErrKind)
			wantFind(t, d, "a", keys, 0, false)
		}
	}
	wantAll(t, d, l)
}

// A key that is not valid is told ahead of all else, a stream that is there ahead of there being no room.
func TestP6_1ErrorsOrder(t *testing.T) {
	for _, most := range []int{-1, 0, 1, 2} {
		d := streams.New(most)
		d.Add("a", ints(1))
		d.Add("b", ints(1))
		for _, v := range wrongKeys() {
			wantAdd(t, d, "a", []api.Value{v}, 0, api.ErrKind)
			wantAdd(t, d, "c", append(ints(1), v), 0, api.ErrKind)
		}
	}
	full := filled(t, 2, []entry{{"b", ints(1)}, {"a", ints(1)}})
	wantAdd(t, full, "c", nil, 0, api.ErrFull)
	wantAdd(t, full, "a", ints(1), 1, api.OK)
	wantAdd(t, full, "b", ints(1), 0, api.OK)
	wantAdd(t, full, "c", nil, 0, api.ErrFull)
	wantAll(t, full, []entry{{"b", ints(1)}, {"a", ints(1)}})
}

func TestP6_1SameAgain(t *testing.T) {
	l := others()
	d := filled(t, len(l), l)
	for id, x := range slices.Backward(l) {
		wantAdd(t, d, strings.Clone(x.name), slices.Clone(x.keys), id, api.OK)
	}
	wantAdd(t, d, "a", []api.Value{}, 1, api.OK)
	wantFind(t, d, "a", []api.Value{}, 1, true)
	wantAll(t, d, l)
}

func TestP6_1FindAddsNothing(t *testing.T) {
	d := streams.New(3)
	for range 5 {
		wantFind(t, d, "a", ints(1), 0, false)
	}
	wantAdd(t, d, "b", ints(1), 0, api.OK)
	wantFind(t, d, "a", ints(1), 0, false)
	wantAdd(t, d, "a", ints(1), 1, api.OK)
	wantFind(t, d, "a", ints(1), 1, true)
	wantAll(t, d, []entry{{"b", ints(1)}, {"a", ints(1)}})
}

func TestP6_2Keys(t *testing.T) {
	l := others()
	d := filled(t, len(l), l)
	wantAll(t, d, l)
	for _, id := range []int{math.MinInt, -len(l), -2, -1, len(l), len(l) + 1, 1 << 32, math.MaxInt} {
		wantNoKeys(t, d, id)
	}
	wantNoKeys(t, streams.New(5), 0)
	wantNoKeys(t, streams.New(5), 4)
}

func TestP6_2Of(t *testing.T) {
	var l []entry
	for n := range 60 {
		l = append(l, entry{[]string{"a", "b", "ab", ""}[n*n%7%4], ints(n)})
	}
	d := filled(t, 100, l)
	wantAll(t, d, l)
	for _, name := range []string{"c", "aa", "ba", "A", "a ", "a\x00", "\x00", strings.Repeat("a", 1000)} {
		if got := d.Of(name); len(got) != 0 {
			t.Errorf("Of(%q) = %v", name, got)
		}
	}
	d.Add("a", ints(1000))
	d.Add("a", ints(1000))
	if got := d.Of("a"); !slices.IsSorted(got) || got[len(got)-1] != 60 {
		t.Errorf("Of(a) = %v", got)
	}
}

func TestP6_2Len(t *testing.T) {
	d := streams.New(4)
	for n, x := range []struct {
		keys []api.Value
		want int
	}{{ints(1), 1}, {ints(1), 1}, {[]api.Value{{}}, 1}, {ints(2), 2}, {nil, 3}, {ints(2), 3}, {ints(3), 4}, {ints(4), 4}, {ints(1), 4}} {
		d.Add("a", x.keys)
		if d.Len() != x.want {
			t.Errorf("step %d: Len = %d, want %d", n, d.Len(), x.want)
		}
	}
}

func TestP6_2CloneIsTheSame(t *testing.T) {
	l := others()
	d := filled(t, len(l)+2, l)
	c := d.Clone().Clone()
	wantAll(t, c, l)
	for id, x := range l {
		wantAdd(t, c, x.name, x.keys, id, api.OK)
	}
	wantAdd(t, c, "new", nil, len(l), api.OK)
	wantAdd(t, c, "newer", nil, len(l)+1, api.OK)
	wantAdd(t, c, "newest", nil, 0, api.ErrFull)
	wantAll(t, d, l)
}

func TestP6_2ClonesGoTheirWay(t *testing.T) {
	for start := range 10 {
		var both []entry
		for n := range start {
			both = append(both, entry{"s", ints(n)})
		}
		d := filled(t, 12, both)
		c := d.Clone()
		inD, inC := slices.Clip(both), slices.Clip(both)
		for n := range 2 {
			inD, inC = append(inD, entry{"d", ints(n)}), append(inC, entry{"c", ints(n)})
			wantAdd(t, d, "d", ints(n), start+n, api.OK)
			wantAdd(t, c, "c", ints(n), start+n, api.OK)
		}
		wantAll(t, d, inD)
		wantAll(t, c, inC)
		wantFind(t, d, "c", ints(0), 0, false)
		wantFind(t, c, "d", ints(0), 0, false)
		if len(d.Of("c")) != 0 || len(c.Of("d")) != 0 {
			t.Errorf("from %d on: Of(c) = %v, Of(d) = %v", start, d.Of("c"), c.Of("d"))
		}
	}
}

func TestP6_2CloneOfNone(t *testing.T) {
	d := streams.New(1)
	c := d.Clone()
	wantAdd(t, d, "a", nil, 0, api.OK)
	wantAll(t, c, nil)
	wantAdd(t, c, "b", nil, 0, api.OK)
	wantAdd(t, c, "a", nil, 0, api.ErrFull)
	wantAdd(t, d, "b", nil, 0, api.ErrFull)
	wantAdd(t, streams.New(-3).Clone(), "a", nil, 0, api.ErrFull)
}

func TestP6_3OtherStreamsOtherNumbers(t *testing.T) {
	l := others()
	for i, x := range l {
		for j, y := range l[:i] {
			if x.name == y.name && slices.Equal(x.keys, y.keys) {
				t.Fatalf("%d and %d are the same stream", j, i)
			}
		}
	}
	wantAll(t, filled(t, len(l), l), l)
	slices.Reverse(l)
	wantAll(t, filled(t, len(l), l), l)
}

func TestP6_3NumbersStay(t *testing.T) {
	l := others()
	d := streams.New(len(l))
	for id, x := range l {
		wantAdd(t, d, x.name, x.keys, id, api.OK)
		d.Add("a", []api.Value{{}})
		d.Find("none", nil)
		d.Of("a")
		wantAll(t, d, l[:id+1])
		if id%10 == 0 {
			d.Clone().Add("clone", nil)
		}
	}
	d.Add("full", nil)
	wantAll(t, d, l)
}

// The same calls of two dictionaries answer the same, whatever else goes on.
func TestP6_3SameCallsSameAnswers(t *testing.T) {
	names := []string{"a", "b", ""}
	one, two := streams.New(40), streams.New(40)
	var want []entry
	x := 1
	for range 2000 {
		x = (x*1103515245 + 12345) % (1 << 31)
		name, keys := names[x>>8%3], ints(x>>12%4, x>>16%5)
		id := slices.IndexFunc(want, func(w entry) bool { return w.name == name && slices.Equal(w.keys, keys) })
		e := api.OK
		if id < 0 && len(want) == 40 {
			id, e = 0, api.ErrFull
		} else if id < 0 {
			id, want = len(want), append(want, entry{name, keys})
		}
		wantAdd(t, one, name, keys, id, e)
		wantAdd(t, two, name, keys, id, e)
	}
	if len(want) != 40 {
		t.Errorf("only %d streams", len(want))
	}
	wantAll(t, one, want)
	wantAll(t, two, want)
}

func TestHandedInStays(t *testing.T) {
	d := streams.New(3)
	keys := withRoom(append(ints(1), texts("x")...))
	before := slices.Clone(keys[:cap(keys)])
	for range 4 {
		d.Add("a", keys)
		d.Add("b", keys[:1])
		d.Find("a", keys)
		d.Find("c", keys)
		d.Add("c", keys[:0])
		d.Add("d", keys)
	}
	if !slices.Equal(keys[:cap(keys)], before) {
		t.Errorf("keys that were handed in are now %v", keys[:cap(keys)])
	}
	scribble(keys, value.OfInt(99))
	wantAll(t, d, []entry{{"a", before[:2]}, {"b", before[:1]}, {"c", nil}})
	wantFind(t, d, "a", ints(99, 99), 0, false)
}

func TestAnsweredIsOwn(t *testing.T) {
	l := []entry{{"a", ints(1, 2, 3)}, {"b", texts("x")}, {"a", ints(4)}, {"a", nil}, {"a", ints(5)}}
	d := filled(t, 9, l)
	c := d.Clone()
	for range 2 {
		for id := range l {
			_, keys, _ := d.Keys(id)
			scribble(keys, value.OfStr("scribble"))
			_, keys, _ = c.Keys(id)
			scribble(keys, value.OfStr("scribble"))
		}
		scribble(d.Of("a"), 77)
		scribble(c.Of("b"), 77)
		wantAll(t, d, l)
		wantAll(t, c, l)
	}
	ids, again := d.Of("a"), d.Of("a")
	scribble(again, 77)
	if !slices.Equal(ids, []int{0, 2, 3, 4}) {
		t.Errorf("Of(a) = %v, once another answer was written over", ids)
	}
	_, keys, _ := d.Keys(0)
	_, other, _ := d.Keys(0)
	scribble(other, value.OfInt(77))
	if !slices.Equal(keys, ints(1, 2, 3)) {
		t.Errorf("Keys(0) = %v, once another answer was written over", keys)
	}
}
