package schema_test

import (
	"math"
	"slices"
	"strconv"
	"strings"
	"testing"

	"catchment/api"
	"catchment/schema"
	"catchment/value"
)

const longestName = "abcdefghijklmnopqrstuvwx"

const takenWords = "fetch from to where keep align group top by join union and or not has true false count sum min max mean merge time"

func col(name string, kind int) api.Col { return api.Col{Name: name, Kind: kind} }

// load is the schema of the chapter's examples.
func load() api.Schema {
	return api.Schema{Name: "load", Keys: []api.Col{col("host", api.Str)}, Vals: []api.Col{col("n", api.Int)}}
}

// wide has as many keys and values as may be, of each kind that may be.
func wide() api.Schema {
	return api.Schema{
		Name: "wide",
		Keys: []api.Col{col("ki", api.Int), col("ks", api.Str), col("kb", api.Bool), col("kz", api.Str)},
		Vals: []api.Col{col("vi", api.Int), col("vs", api.Str), col("vb", api.Bool), col("vh", api.Hist)},
	}
}

func pair() []api.Schema { return []api.Schema{load(), wide()} }

func pointOf(host string, time, n int) api.Point {
	return api.Point{Schema: "load", Keys: []api.Value{value.OfStr(host)}, Time: time, Vals: []api.Value{value.OfInt(n)}}
}

func widePoint() api.Point {
	return api.Point{
		Schema: "wide",
		Keys:   []api.Value{value.OfInt(-3), value.OfStr("s"), value.OfBool(true), value.OfStr("")},
		Time:   7,
		Vals:   []api.Value{value.OfInt(math.MinInt), value.OfStr("v"), value.OfBool(false), value.Bucket(5)},
	}
}

// named are n schemas s0, s1, ..
func named(n int) []api.Schema {
	var l []api.Schema
	for k := range n {
		s := load()
		s.Name = "s" + strconv.Itoa(k)
		l = append(l, s)
	}
	return l
}

// intCols are n columns, whose names begin with a letter of their own.
func intCols(letter string, n int) []api.Col {
	var l []api.Col
	for k := range n {
		l = append(l, col(letter+strconv.Itoa(k), api.Int))
	}
	return l
}

func withRoom[E any](list []E, spare E) []E {
	out := append(slices.Clip(slices.Clone(list)), spare, spare)
	return out[:len(list)]
}

// roomy is a copy with spare room behind each list's end, and something in that room.
func roomy(l []api.Schema) []api.Schema {
	spare := col("spare", 77)
	var out []api.Schema
	for _, s := range l {
		out = append(out, api.Schema{Name: s.Name, Keys: withRoom(s.Keys, spare), Vals: withRoom(s.Vals, spare)})
	}
	return withRoom(out, api.Schema{Name: "spare"})
}

// deep is a copy of all schemas, with what stands behind each list's end.
func deep(l []api.Schema) []api.Schema {
	var out []api.Schema
	for _, s := range l[:cap(l)] {
		out = append(out, api.Schema{Name: s.Name, Keys: slices.Clone(s.Keys[:cap(s.Keys)]), Vals: slices.Clone(s.Vals[:cap(s.Vals)])})
	}
	return out
}

func sameSchema(a, b api.Schema) bool {
	return a.Name == b.Name && slices.Equal(a.Keys, b.Keys) && slices.Equal(a.Vals, b.Vals)
}

func scribble(cols []api.Col) {
	for k := range cols[:cap(cols)] {
		cols[:cap(cols)][k] = col("scribble", 99)
	}
}

func TestP5_1Word(t *testing.T) {
	for _, s := range []string{
		"a", "z", "host", "load", "n", "a0", "a9", "a_", "a_1", "zz_09", "a__", longestName, "a" + strings.Repeat("_", 23),
		"fetching", "times", "time_", "by2", "int", "str", "bool", "hist", "input", "least", "most", "is", "in", "order", "eq",
	} {
		if !schema.Word(s) {
			t.Errorf("Word(%q) is false", s)
		}
	}
	for _, s := range []string{
		"", "#", "a#", "a#b", "a##", "count#", "sum#n", "_", "_a", "9", "9a", " ", "a ", " a", "a b", "A", "Time", "TIME", "Host", "aB",
		"a-b", "a.b", "a\"", "a\x00", "a\n", "a\xff", "é", "aé", longestName + "y", strings.Repeat("a", 1000),
		"abcdefghijklmnopqrstuvw#",
	} {
		if schema.Word(s) {
			t.Errorf("Word(%q) is true", s)
		}
	}
}

func TestP5_1WordTaken(t *testing.T) {
	taken := strings.Fields(takenWords)
	if len(taken) != 24 {
		t.Fatalf("%d words", len(taken))
	}
	for _, s := range taken {
		if schema.Word(s) {
			t.Errorf("Word(%q) is true", s)
		}
		for _, near := range []string{s + "s", s + "_", s + "0", "x" + s, s + s, s[:len(s)-1], s[1:]} {
			if want := !slices.Contains(taken, near); schema.Word(near) != want {
				t.Errorf("Word(%q): want %v", near, want)
			}
		}
		for _, wrong := range []string{s + "#", s + " ", " " + s, strings.ToUpper(s)} {
			if schema.Word(wrong) {
				t.Errorf("Word(%q) is true", wrong)
			}
		}
	}
}

func TestP5_1WordByte(t *testing.T) {
	const first = "abcdefghijklmnopqrstuvwxyz"
	for c := range 256 {
		x := string([]byte{byte(c)})
		if got := schema.Word(x); got != strings.Contains(first, x) {
			t.Errorf("Word(%q) = %v", x, got)
		}
		for _, y := range []string{"q" + x, "q" + x + "q", longestName[:23] + x} {
			if got := schema.Word(y); got != strings.Contains(first+"0123456789_", x) {
				t.Errorf("Word(%q) = %v", y, got)
			}
		}
	}
}

func TestP5_1CheckHowMany(t *testing.T) {
	for n, want := range map[int]api.Errno{0: api.ErrSchema, 1: api.OK, 2: api.OK, 7: api.OK, 8: api.OK, 9: api.ErrSchema, 1000: api.ErrSchema} {
		if e := schema.Check(named(n)); e != want {
			t.Errorf("Check of %d schemas = %d, want %d", n, e, want)
		}
	}
	if e := schema.Check([]api.Schema{}); e != api.ErrSchema {
		t.Errorf("Check of an empty list = %d", e)
	}
	if e := schema.Check(pair()); e != api.OK {
		t.Errorf("Check of two that may be = %d", e)
	}
}

func TestP5_1CheckNamesTwice(t *testing.T) {
	for i := range 8 {
		for j := range i {
			l := named(8)
			l[i].Name = l[j].Name
			if e := schema.Check(l); e != api.ErrSchema {
				t.Errorf("Check with the name of %d at %d too = %d", j, i, e)
			}
		}
	}
	other := wide()
	other.Name = "load"
	if e := schema.Check([]api.Schema{load(), other}); e != api.ErrSchema {
		t.Errorf("Check of two that share their name alone = %d", e)
	}
	near := named(2)
	near[0].Name, near[1].Name = "load", "loads"
	if e := schema.Check(near); e != api.OK {
		t.Errorf("Check of one name that begins another = %d", e)
	}
}

// wrongs are changes of a schema that may be, each of which makes it one that may not.
func wrongs() map[string]func(*api.Schema) {
	return map[string]func(*api.Schema){
		"no name":                   func(s *api.Schema) { s.Name = "" },
		"a taken name":              func(s *api.Schema) { s.Name = "to" },
		"the name time":             func(s *api.Schema) { s.Name = "time" },
		"a name with #":             func(s *api.Schema) { s.Name = "a#" },
		"a long name":               func(s *api.Schema) { s.Name = longestName + "y" },
		"no keys":                   func(s *api.Schema) { s.Keys = nil },
		"an empty list of keys":     func(s *api.Schema) { s.Keys = []api.Col{} },
		"5 keys":                    func(s *api.Schema) { s.Keys = intCols("k", 5) },
		"1000 keys":                 func(s *api.Schema) { s.Keys = intCols("k", 1000) },
		"no values":                 func(s *api.Schema) { s.Vals = nil },
		"an empty list of values":   func(s *api.Schema) { s.Vals = []api.Col{} },
		"5 values":                  func(s *api.Schema) { s.Vals = intCols("v", 5) },
		"1000 values":               func(s *api.Schema) { s.Vals = intCols("v", 1000) },
		"a key time":                func(s *api.Schema) { s.Keys[0].Name = "time" },
		"a value time":              func(s *api.Schema) { s.Vals[3].Name = "time" },
		"a key without name":        func(s *api.Schema) { s.Keys[3].Name = "" },
		"a value without name":      func(s *api.Schema) { s.Vals[0].Name = "" },
		"a key with #":              func(s *api.Schema) { s.Keys[1].Name = "k#" },
		"a value with #":            func(s *api.Schema) { s.Vals[1].Name = "v#" },
		"a key of a taken name":     func(s *api.Schema) { s.Keys[2].Name = "by" },
		"a value of a taken name":   func(s *api.Schema) { s.Vals[2].Name = "merge" },
		"a key's long name":         func(s *api.Schema) { s.Keys[3].Name = longestName + "y" },
		"a value's long name":       func(s *api.Schema) { s.Vals[3].Name = longestName + "y" },
		"a key twice":               func(s *api.Schema) { s.Keys[3].Name = s.Keys[1].Name },
		"a key twice, first":        func(s *api.Schema) { s.Keys[1].Name = s.Keys[0].Name },
		"a value twice":             func(s *api.Schema) { s.Vals[3].Name = s.Vals[0].Name },
		"a value twice, last":       func(s *api.Schema) { s.Vals[3].Name = s.Vals[2].Name },
		"a value as the first key":  func(s *api.Schema) { s.Vals[3].Name = s.Keys[0].Name },
		"a value as the last key":   func(s *api.Schema) { s.Vals[0].Name = s.Keys[3].Name },
		"a Hist as a key":           func(s *api.Schema) { s.Keys[0].Kind = api.Hist },
		"a Hist as the last key":    func(s *api.Schema) { s.Keys[3].Kind = api.Hist },
		"a key of kind 0":           func(s *api.Schema) { s.Keys[1].Kind = 0 },
		"a key of kind 5":           func(s *api.Schema) { s.Keys[1].Kind = 5 },
		"a key of kind -1":          func(s *api.Schema) { s.Keys[1].Kind = -1 },
		"a key of the least kind":   func(s *api.Schema) { s.Keys[1].Kind = math.MinInt },
		"a key of the most kind":    func(s *api.Schema) { s.Keys[1].Kind = math.MaxInt },
		"a value of kind 0":         func(s *api.Schema) { s.Vals[3].Kind = 0 },
		"a value of kind 5":         func(s *api.Schema) { s.Vals[3].Kind = 5 },
		"a value of kind -1":        func(s *api.Schema) { s.Vals[0].Kind = -1 },
		"a value of the least kind": func(s *api.Schema) { s.Vals[0].Kind = math.MinInt },
		"a value of the most kind":  func(s *api.Schema) { s.Vals[0].Kind = math.MaxInt },
	}
}

func TestP5_1CheckWrong(t *testing.T) {
	for what, spoil := range wrongs() {
		s := wide()
		spoil(&s)
		for _, l := range [][]api.Schema{{s}, {s, load()}, {load(), s}, append(named(7), s)} {
			if e := schema.Check(l); e != api.ErrSchema {
				t.Errorf("Check of %d, one with %s = %d", len(l), what, e)
			}
		}
	}
	if e := schema.Check([]api.Schema{{}}); e != api.ErrSchema {
		t.Errorf("Check of a schema of nothing = %d", e)
	}
}

func TestP5_1CheckRight(t *testing.T) {
	for what, change := range map[string]func(*api.Schema){
		"as it is":                         func(s *api.Schema) {},
		"a name of 24 bytes":               func(s *api.Schema) { s.Name = longestName },
		"1 key":                            func(s *api.Schema) { s.Keys = s.Keys[:1] },
		"3 keys":                           func(s *api.Schema) { s.Keys = s.Keys[:3] },
		"1 value":                          func(s *api.Schema) { s.Vals = s.Vals[3:] },
		"3 values":                         func(s *api.Schema) { s.Vals = s.Vals[1:] },
		"all values Hists":                 func(s *api.Schema) { s.Vals[0].Kind, s.Vals[1].Kind, s.Vals[2].Kind = api.Hist, api.Hist, api.Hist },
		"all keys Bools":                   func(s *api.Schema) { s.Keys[0].Kind, s.Keys[1].Kind, s.Keys[3].Kind = api.Bool, api.Bool, api.Bool },
		"a key called as the schema":       func(s *api.Schema) { s.Keys[0].Name = s.Name },
		"a value called as another schema": func(s *api.Schema) { s.Vals[0].Name = "load" },
		"a column's name of 24 bytes":      func(s *api.Schema) { s.Vals[3].Name = longestName },
		"a key that begins a value":        func(s *api.Schema) { s.Keys[3].Name, s.Vals[0].Name = "a", "aa" },
		"names as another schema's":        func(s *api.Schema) { s.Keys, s.Vals = load().Keys, load().Vals },
	} {
		s := wide()
		change(&s)
		for _, l := range [][]api.Schema{{s}, {load(), s}} {
			if e := schema.Check(l); e != api.OK {
				t.Errorf("Check of %d, one with %s = %d", len(l), what, e)
			}
		}
	}
}

func TestP5_1Find(t *testing.T) {
	second := wide()
	second.Name = "load"
	l := []api.Schema{wide(), load(), second, {}, {Name: "", Keys: intCols("k", 1)}, {Name: "No word#", Vals: intCols("v", 9)}}
	for name, at := range map[string]int{"wide": 0, "load": 1, "": 3, "No word#": 5} {
		if got, found := schema.Find(l, name); !found || !sameSchema(got, l[at]) {
			t.Errorf("Find(%q) = %v, %v; want %v", name, got, found, l[at])
		}
	}
	if got, found := schema.Find(l[2:], "load"); !found || !sameSchema(got, second) {
		t.Errorf("Find in a piece = %v, %v", got, found)
	}
	for _, name := range []string{"loads", "loa", "Load", "load ", "time", "host"} {
		wantNone(t, l, name)
	}
	wantNone(t, l[:1], "load")
	wantNone(t, nil, "load")
	wantNone(t, nil, "")
	wantNone(t, []api.Schema{}, "")
	wantNone(t, roomy(named(1)), "spare")
}

func wantNone(t *testing.T, l []api.Schema, name string) {
	t.Helper()
	got, found := schema.Find(l, name)
	if found || got.Name != "" || got.Keys != nil || got.Vals != nil {
		t.Errorf("Find(%q) = %v, %v; want nothing, and false", name, got, found)
	}
}

func TestP5_2Cols(t *testing.T) {
	time := col("time", api.Int)
	w := wide()
	for _, x := range []struct {
		s    api.Schema
		want []api.Col
	}{
		{load(), []api.Col{time, col("host", api.Str), col("n", api.Int)}},
		{w, []api.Col{time, w.Keys[0], w.Keys[1], w.Keys[2], w.Keys[3], w.Vals[0], w.Vals[1], w.Vals[2], w.Vals[3]}},
		{api.Schema{}, []api.Col{time}},
		{api.Schema{Name: "x", Keys: w.Keys[:2]}, []api.Col{time, w.Keys[0], w.Keys[1]}},
		{api.Schema{Name: "x", Vals: w.Vals[2:]}, []api.Col{time, w.Vals[2], w.Vals[3]}},
		{api.Schema{Keys: []api.Col{time, col("K", 9)}, Vals: []api.Col{time, {}}}, []api.Col{time, time, col("K", 9), time, {}}},
	} {
		if got := schema.Cols(x.s); !slices.Equal(got, x.want) {
			t.Errorf("Cols(%v) = %v, want %v", x.s, got, x.want)
		}
	}
	many := api.Schema{Keys: intCols("k", 100), Vals: intCols("v", 50)}
	if got := schema.Cols(many); len(got) != 151 || got[100] != many.Keys[99] || got[101] != many.Vals[0] {
		t.Errorf("Cols of many = %v", got)
	}
}

func TestP5_3FitsTime(t *testing.T) {
	for time, want := range map[int]api.Errno{
		math.MinInt: api.ErrPoint, -1 << 40: api.ErrPoint, -1: api.ErrPoint, 0: api.OK, 1: api.OK, 5: api.OK, 1<<40 - 2: api.OK, 1<<40 - 1: api.OK,
		1 << 40: api.ErrPoint, 1<<40 + 1: api.ErrPoint, 1 << 41: api.ErrPoint, math.MaxInt: api.ErrPoint,
	} {
		if e := schema.Fits(pair(), pointOf("a", time, 7)); e != want {
			t.Errorf("Fits of the time %d = %d, want %d", time, e, want)
		}
	}
}

func TestP5_3FitsValues(t *testing.T) {
	long := strings.Repeat("z", 64)
	text := api.Value{Kind: api.Str, S: long + "z"}
	for what, x := range map[string]struct {
		change func(*api.Point)
		want   api.Errno
	}{
		"as it is":              {func(p *api.Point) {}, api.OK},
		"a key of 64 bytes":     {func(p *api.Point) { p.Keys[1] = value.OfStr(long) }, api.OK},
		"a key of 65 bytes":     {func(p *api.Point) { p.Keys[1] = text }, api.ErrPoint},
		"a value of 64 bytes":   {func(p *api.Point) { p.Vals[1] = value.OfStr(long) }, api.OK},
		"a value of 65 bytes":   {func(p *api.Point) { p.Vals[1] = text }, api.ErrPoint},
		"bytes of any kind":     {func(p *api.Point) { p.Keys[3] = value.OfStr("\x00\xff\n\"") }, api.OK},
		"the greatest Int":      {func(p *api.Point) { p.Keys[0] = value.OfInt(math.MaxInt) }, api.OK},
		"buckets below 0":       {func(p *api.Point) { p.Vals[3].H = [8]int{-1, math.MinInt} }, api.OK},
		"no keys":               {func(p *api.Point) { p.Keys = nil }, api.ErrPoint},
		"no values":             {func(p *api.Point) { p.Vals = nil }, api.ErrPoint},
		"a key too few":         {func(p *api.Point) { p.Keys = p.Keys[:3] }, api.ErrPoint},
		"a key too many":        {func(p *api.Point) { p.Keys = append(p.Keys, value.OfStr("")) }, api.ErrPoint},
		"a value too few":       {func(p *api.Point) { p.Vals = p.Vals[:3] }, api.ErrPoint},
		"a value too many":      {func(p *api.Point) { p.Vals = append(p.Vals, value.Bucket(1)) }, api.ErrPoint},
		"a key as a value":      {func(p *api.Point) { p.Keys, p.Vals = p.Keys[:3], append(p.Keys[3:], p.Vals...) }, api.ErrPoint},
		"a value as a key":      {func(p *api.Point) { p.Keys, p.Vals = append(p.Keys, p.Vals[0]), p.Vals[1:] }, api.ErrPoint},
		"keys and values twist": {func(p *api.Point) { p.Keys, p.Vals = p.Vals, p.Keys }, api.ErrPoint},
		"an Int with a text":    {func(p *api.Point) { p.Keys[0].S = "x" }, api.ErrPoint},
		"a Str with a number":   {func(p *api.Point) { p.Keys[3].N = 1 }, api.ErrPoint},
		"a Bool of 2":           {func(p *api.Point) { p.Keys[2].N = 2 }, api.ErrPoint},
		"a Hist with a number":  {func(p *api.Point) { p.Vals[3].N = 1 }, api.ErrPoint},
		"a Str with buckets":    {func(p *api.Point) { p.Vals[1].H[7] = 1 }, api.ErrPoint},
	} {
		p := widePoint()
		x.change(&p)
		if e := schema.Fits(pair(), p); e != x.want {
			t.Errorf("Fits of %s = %d, want %d", what, e, x.want)
		}
	}
}

func TestP5_3FitsKinds(t *testing.T) {
	ones := []api.Value{{}, value.OfInt(0), value.OfStr(""), value.OfBool(false), value.Bucket(0), {Kind: 5}, {Kind: -1}}
	check := func(what string, place func(*api.Point) *api.Value, kind int) {
		for _, v := range ones {
			p := widePoint()
			*place(&p) = v
			want := api.ErrPoint
			if v.Kind == kind {
				want = api.OK
			}
			if e := schema.Fits(pair(), p); e != want {
				t.Errorf("Fits with %v as %s = %d, want %d", v, what, e, want)
			}
		}
	}
	for k := range 4 {
		check("key "+strconv.Itoa(k), func(p *api.Point) *api.Value { return &p.Keys[k] }, wide().Keys[k].Kind)
		check("value "+strconv.Itoa(k), func(p *api.Point) *api.Value { return &p.Vals[k] }, wide().Vals[k].Kind)
	}
}

func TestP5_3FitsSchema(t *testing.T) {
	for _, name := range []string{"", "loads", "loa", "Load", "time", "host"} {
		p := pointOf("a", 5, 7)
		p.Schema = name
		if e := schema.Fits(pair(), p); e != api.ErrSchema {
			t.Errorf("Fits of the schema %q = %d", name, e)
		}
		p = api.Point{Schema: name, Time: -1}
		if e := schema.Fits(pair(), p); e != api.ErrSchema {
			t.Errorf("Fits of the schema %q, with all else wrong too = %d", name, e)
		}
	}
	for _, none := range [][]api.Schema{nil, {}, pair()[1:]} {
		if e := schema.Fits(none, pointOf("a", 5, 7)); e != api.ErrSchema {
			t.Errorf("Fits without its schema = %d", e)
		}
	}
	if e := schema.Fits(pair(), api.Point{Schema: "load"}); e != api.ErrPoint {
		t.Errorf("Fits of a point without values = %d", e)
	}
}

// Fits, as Find, takes any schemas: those that Check refuses too.
func TestP5_3FitsAnySchemas(t *testing.T) {
	second := wide()
	second.Name = "load"
	bare := api.Schema{Name: "Bare#"}
	odd := api.Schema{Name: "odd", Keys: []api.Col{col("h", api.Hist), col("h", api.Hist)}, Vals: []api.Col{col("", 9)}}
	l := append(named(9), load(), second, bare, odd)
	for what, x := range map[string]struct {
		p    api.Point
		want api.Errno
	}{
		"the first of two of a name":     {pointOf("a", 5, 7), api.OK},
		"a schema without columns":       {api.Point{Schema: "Bare#", Time: 3}, api.OK},
		"that, and a key":                {api.Point{Schema: "Bare#", Keys: []api.Value{value.OfInt(1)}}, api.ErrPoint},
		"that, and a time that is wrong": {api.Point{Schema: "Bare#", Time: -3}, api.ErrPoint},
		"a kind that no value has": {api.Point{Schema: "odd", Keys: []api.Value{value.Bucket(1), value.Bucket(2)},
			Vals: []api.Value{{Kind: 9}}}, api.ErrPoint},
	} {
		if e := schema.Fits(l, x.p); e != x.want {
			t.Errorf("Fits of %s = %d, want %d", what, e, x.want)
		}
	}
	p := widePoint()
	p.Schema = "load"
	if e := schema.Fits(l, p); e != api.ErrPoint {
		t.Errorf("Fits of a point of the second of a name = %d", e)
	}
}

// R7: what is handed in stays as it was, with the room behind each list's end.
func TestHandedInStays(t *testing.T) {
	l := roomy(pair())
	before := deep(l)
	p := widePoint()
	p.Keys, p.Vals = withRoom(p.Keys, value.OfInt(777)), withRoom(p.Vals, value.OfInt(777))
	keys, vals := slices.Clone(p.Keys[:cap(p.Keys)]), slices.Clone(p.Vals[:cap(p.Vals)])
	schema.Check(l)
	schema.Find(l, "wide")
	schema.Cols(l[1])
	schema.Fits(l, p)
	if !slices.EqualFunc(l[:cap(l)], before, func(a, b api.Schema) bool {
		return a.Name == b.Name && slices.Equal(a.Keys[:cap(a.Keys)], b.Keys) && slices.Equal(a.Vals[:cap(a.Vals)], b.Vals)
	}) {
		t.Errorf("schemas were changed: %v", l[:cap(l)])
	}
	if !slices.Equal(p.Keys[:cap(p.Keys)], keys) || !slices.Equal(p.Vals[:cap(p.Vals)], vals) {
		t.Errorf("a point was changed: %v", p)
	}
}

// R7: what is answered is the caller's own: writing over it is seen by no one.
func TestAnsweredIsOwn(t *testing.T) {
	l := roomy(pair())
	before := deep(l)
	for _, name := range []string{"load", "wide"} {
		s, _ := schema.Find(l, name)
		again, _ := schema.Find(l, name)
		scribble(s.Keys)
		scribble(s.Vals)
		scribble(schema.Cols(again))
		want, _ := schema.Find(before, name)
		want.Keys, want.Vals = want.Keys[:len(again.Keys)], want.Vals[:len(again.Vals)]
		if !sameSchema(again, want) {
			t.Errorf("Find(%q) = %v after an answer was written over, want %v", name, again, want)
		}
	}
	if after := deep(l); !slices.EqualFunc(after, before, sameSchema) {
		t.Errorf("schemas were changed by way of an answer: %v", after)
	}
}

// The lists that an answer has do not share their room, even where those handed in do.
func TestAnsweredListsAreApart(t *testing.T) {
	cols := wide().Keys
	l := []api.Schema{{Name: "a", Keys: cols, Vals: cols}, {Name: "b", Keys: cols[:2], Vals: cols[2:]}}
	for _, name := range []string{"a", "b"} {
		s, _ := schema.Find(l, name)
		vals := slices.Clone(s.Vals)
		scribble(s.Keys)
		if !slices.Equal(s.Vals, vals) {
			t.Errorf("of %q keys and values share memory", name)
		}
	}
}

func TestExamples(t *testing.T) {
	if !schema.Word("host") || schema.Word("time") || schema.Word("a#") {
		t.Error("Word")
	}
	one := []api.Schema{load()}
	for _, x := range []struct {
		l    []api.Schema
		want api.Errno
	}{{one, api.OK}, {append(one, load()), api.ErrSchema}, {nil, api.ErrSchema}} {
		if e := schema.Check(x.l); e != x.want {
			t.Errorf("Check(%v) = %d, want %d", x.l, e, x.want)
		}
	}
	loads := pointOf("a", 5, 7)
	loads.Schema = "loads"
	for _, x := range []struct {
		p    api.Point
		want api.Errno
	}{{pointOf("a", 5, 7), api.OK}, {pointOf("a", -1, 7), api.ErrPoint}, {loads, api.ErrSchema}} {
		if e := schema.Fits(one, x.p); e != x.want {
			t.Errorf("Fits(%v) = %d, want %d", x.p, e, x.want)
		}
	}
}
