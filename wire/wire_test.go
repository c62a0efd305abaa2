package wire_test

import (
	"bytes"
	"encoding/binary"
	"hash/crc32"
	"math"
	"slices"
	"strconv"
	"strings"
	"testing"

	"catchment/api"
	"catchment/table"
	"catchment/value"
	"catchment/wire"
)

type row = []api.Value

func hist(h ...int) api.Value {
	v := api.Value{Kind: api.Hist}
	copy(v.H[:], h)
	return v
}

// sample is a value, and the bytes that the document gives it, written out by hand.
type sample struct {
	v     api.Value
	bytes string
}

func samples() []sample {
	z := strings.Repeat("z", 64)
	eights := strings.Repeat("\x00\x00\x00\x00\x00\x00\x00\x00", 6)
	return []sample{
		{value.OfInt(0), "\x00\x00\x00\x00\x00\x00\x00\x00"},
		{value.OfInt(1), "\x00\x00\x00\x00\x00\x00\x00\x01"},
		{value.OfInt(258), "\x00\x00\x00\x00\x00\x00\x01\x02"},
		{value.OfInt(0x0102030405060708), "\x01\x02\x03\x04\x05\x06\x07\x08"},
		{value.OfInt(1 << 32), "\x00\x00\x00\x01\x00\x00\x00\x00"},
		{value.OfInt(-1), "\xff\xff\xff\xff\xff\xff\xff\xff"},
		{value.OfInt(-2), "\xff\xff\xff\xff\xff\xff\xff\xfe"},
		{value.OfInt(-256), "\xff\xff\xff\xff\xff\xff\xff\x00"},
		{value.OfInt(math.MaxInt), "\x7f\xff\xff\xff\xff\xff\xff\xff"},
		{value.OfInt(math.MinInt), "\x80\x00\x00\x00\x00\x00\x00\x00"},
		{value.OfStr(""), "\x00"},
		{value.OfStr("ab"), "\x02ab"},
		{value.OfStr("\x00"), "\x01\x00"},
		{value.OfStr("\xff\xfe"), "\x02\xff\xfe"},
		{value.OfStr("é"), "\x02\xc3\xa9"},
		{value.OfStr("a\"\\\n"), "\x04a\"\\\n"},
		{value.OfStr(z[:63]), "\x3f" + z[:63]},
		{value.OfStr(z), "\x40" + z},
		{value.OfBool(false), "\x00"},
		{value.OfBool(true), "\x01"},
		{hist(), eights + eights[:16]},
		{value.Bucket(5), "\x00\x00\x00\x00\x00\x00\x00\x00\x00\x00\x00\x00\x00\x00\x00\x01" + eights},
		{hist(-1, 0, 0, 0, 0, 0, 0, 258), "\xff\xff\xff\xff\xff\xff\xff\xff" + eights + "\x00\x00\x00\x00\x00\x00\x01\x02"},
		{hist(math.MinInt, 0, 0, 0, 0, 0, 0, math.MaxInt), "\x80\x00\x00\x00\x00\x00\x00\x00" + eights + "\x7f\xff\xff\xff\xff\xff\xff\xff"},
	}
}

func wrongOnes() []api.Value {
	return []api.Value{
		{}, {Kind: -1}, {Kind: 5}, {Kind: 257}, {Kind: 0, N: 1}, {Kind: math.MinInt}, {Kind: math.MaxInt},
		{Kind: api.Int, S: "x"}, {Kind: api.Int, H: [8]int{7: 1}}, {Kind: api.Str, N: 1}, {Kind: api.Str, H: [8]int{1}},
		{Kind: api.Str, S: strings.Repeat("z", 65)}, {Kind: api.Str, S: strings.Repeat("z", 256)}, {Kind: api.Str, S: strings.Repeat("z", 300)},
		{Kind: api.Bool, N: 2}, {Kind: api.Bool, N: -1}, {Kind: api.Bool, N: 256}, {Kind: api.Bool, N: 257}, {Kind: api.Bool, S: "x"},
		{Kind: api.Hist, N: 1}, {Kind: api.Hist, S: "x"},
	}
}

func TestP4_1Put(t *testing.T) {
	for _, x := range samples() {
		for _, ahead := range []string{"", "x", "\x00\xff", strings.Repeat("y", 1000)} {
			b, e := wire.Put([]byte(ahead), x.v)
			if e != api.OK || string(b) != ahead+x.bytes {
				t.Errorf("Put(%q, %v) = %q, %d", ahead, x.v, b, e)
			}
		}
		if b, e := wire.Put(nil, x.v); e != api.OK || string(b) != x.bytes {
			t.Errorf("Put(nil, %v) = %q, %d", x.v, b, e)
		}
	}
}

func TestP4_1PutOfWrongOnes(t *testing.T) {
	for _, v := range wrongOnes() {
		for _, ahead := range [][]byte{nil, {}, []byte("abc")} {
			if b, e := wire.Put(ahead, v); e != api.ErrKind || len(b) != 0 {
				t.Errorf("Put(%q, %v) = %q, %d; want nothing, and ErrKind", ahead, v, b, e)
			}
		}
	}
}

func TestP4_1Take(t *testing.T) {
	for _, x := range samples() {
		for _, behind := range []string{"", "z", "\x00", "\xff\xff", strings.Repeat("y", 1000)} {
			v, rest, e := wire.Take([]byte(x.bytes+behind), x.v.Kind)
			if e != api.OK || v != x.v || string(rest) != behind {
				t.Errorf("Take(%q, %d) = %v, %q, %d", x.bytes+behind, x.v.Kind, v, rest, e)
			}
		}
	}
}

func wantNoValue(t *testing.T, b string, kind int, want api.Errno) {
	t.Helper()
	v, rest, e := wire.Take([]byte(b), kind)
	if e != want || v != (api.Value{}) || len(rest) != 0 {
		t.Errorf("Take(%q, %d) = %v, %q, %d; want nothing, and %d", b, kind, v, rest, e, want)
	}
}

func TestP4_1TakeOfTooFewBytes(t *testing.T) {
	for _, x := range samples() {
		for n := range len(x.bytes) {
			wantNoValue(t, x.bytes[:n], x.v.Kind, api.ErrBytes)
		}
	}
	for kind := api.Int; kind <= api.Hist; kind++ {
		wantNoValue(t, "", kind, api.ErrBytes)
	}
	// What stands behind a list's end is not in it.
	whole := []byte("\x02ab")
	if v, _, e := wire.Take(whole[:2], api.Str); e != api.ErrBytes || v != (api.Value{}) {
		t.Errorf("Take read beyond the end: %v, %d", v, e)
	}
}

func TestP4_1TakeOfWrongBytes(t *testing.T) {
	long := strings.Repeat("z", 400)
	for n := range 256 {
		c := string([]byte{byte(n)})
		if n > 1 {
			wantNoValue(t, c, api.Bool, api.ErrBytes)
			wantNoValue(t, c+"\x01", api.Bool, api.ErrBytes)
		}
		if n > 64 {
			wantNoValue(t, c+long[:n], api.Str, api.ErrBytes)
			wantNoValue(t, c+long, api.Str, api.ErrBytes)
		}
	}
}

func TestP4_1TakeOfOtherKinds(t *testing.T) {
	for _, kind := range []int{math.MinInt, -1, 0, 5, 6, 255, 256, 257, 258, 1<<32 + 1, math.MaxInt} {
		for _, b := range []string{"", "\x00", "\x01", strings.Repeat("\x00", 100)} {
			wantNoValue(t, b, kind, api.ErrKind)
		}
	}
}

func TestP4_1TakeOneBehindTheOther(t *testing.T) {
	var b []byte
	for _, x := range samples() {
		b, _ = wire.Put(b, x.v)
	}
	for _, x := range samples() {
		v, rest, e := wire.Take(b, x.v.Kind)
		if e != api.OK || v != x.v {
			t.Fatalf("%v came back as %v, %d", x.v, v, e)
		}
		b = rest
	}
	if len(b) != 0 {
		t.Errorf("%q is left", b)
	}
}

// mixed is n bytes of all sorts, the same each time.
func mixed(n int, seed uint32) []byte {
	b := make([]byte, n)
	for k := range b {
		seed = seed*1664525 + 1013904223
		b[k] = byte(seed >> 24)
	}
	return b
}

func TestP4_1PutOfTake(t *testing.T) {
	for seed := range uint32(2000) {
		b := mixed(int(seed%140), seed)
		if len(b) > 0 && seed%3 == 0 {
			b[0] %= 70
		}
		for kind := api.Int; kind <= api.Hist; kind++ {
			v, rest, e := wire.Take(b, kind)
			if e != api.OK {
				continue
			}
			ahead, e := wire.Put(nil, v)
			if e != api.OK || v.Kind != kind || !bytes.Equal(slices.Concat(ahead, rest), b) {
				t.Fatalf("Take(%q, %d) is %v and %q, whose bytes are %q", b, kind, v, rest, ahead)
			}
		}
	}
}

// framed is a body with its length ahead and its sum behind, both reckoned by the library.
func framed(body string) []byte {
	b := binary.BigEndian.AppendUint32(nil, uint32(len(body)))
	b = append(b, body...)
	return binary.BigEndian.AppendUint32(b, crc32.Checksum([]byte(body), crc32.MakeTable(crc32.Castagnoli)))
}

const longestName = "abcdefghijklmnopqrstuvwx"

// wide has a column of each kind.
func wide() api.Table {
	return api.Table{
		Cols: []api.Col{{Name: "i", Kind: api.Int}, {Name: "s_0", Kind: api.Str}, {Name: "b#", Kind: api.Bool}, {Name: longestName, Kind: api.Hist}},
		Rows: []row{
			{value.OfInt(2), value.OfStr("y"), value.OfBool(true), value.Bucket(1)},
			{value.OfInt(-1), value.OfStr("\xff"), value.OfBool(false), hist(-1, 2, 3, 4, 5, 6, 7, math.MinInt)},
			{value.OfInt(2), value.OfStr("y"), value.OfBool(true), value.Bucket(1)},
			{value.OfInt(math.MinInt), value.OfStr(strings.Repeat("z", 64)), value.OfBool(true), hist()},
		},
	}
}

// ints is a table of n Int columns a0, a1, .. and some rows that count on.
func ints(n, rows int) api.Table {
	var t api.Table
	for k := range n {
		t.Cols = append(t.Cols, api.Col{Name: "a" + strconv.Itoa(k), Kind: api.Int})
	}
	for j := range rows {
		r := make(row, n)
		for k := range r {
			r[k] = value.OfInt(j*n + k)
		}
		t.Rows = append(t.Rows, r)
	}
	return t
}

// bools is one column, and as many rows as wanted.
func bools(rows int) api.Table {
	t := api.Table{Cols: []api.Col{{Name: "b", Kind: api.Bool}}}
	for j := range rows {
		t.Rows = append(t.Rows, row{value.OfBool(j%3 == 0)})
	}
	return t
}

// fullest is as long as a table's bytes may be.
func fullest() api.Table {
	t := api.Table{}
	r := row{}
	for k := range 16 {
		t.Cols = append(t.Cols, api.Col{Name: longestName[:23] + string(rune('a'+k)), Kind: api.Str})
		r = append(r, value.OfStr(strings.Repeat(string(rune('a'+k)), 64)))
	}
	for range 4096 {
		t.Rows = append(t.Rows, r)
	}
	return t
}

// coded are tables with their bodies, written out by hand.
func coded() map[string]api.Table {
	minusOne := api.Table{Cols: []api.Col{{Name: "k", Kind: api.Int}}, Rows: []row{{value.OfInt(-1)}}}
	two := api.Table{
		Cols: []api.Col{{Name: "k", Kind: api.Int}, {Name: "s", Kind: api.Str}},
		Rows: []row{{value.OfInt(5), value.OfStr("")}, {value.OfInt(-1), value.OfStr("ab")}, {value.OfInt(5), value.OfStr("")}},
	}
	named := api.Table{Cols: []api.Col{{Name: longestName, Kind: api.Hist}, {Name: "b#_9", Kind: api.Bool}}, Rows: []row{{hist(1, 2, 3, 4, 5, 6, 7, -8), value.OfBool(true)}}}
	five := "\x00\x00\x00\x00\x00\x00\x00\x05\x00"
	return map[string]api.Table{
		"\x01\x01k\x01\x00\x01\xff\xff\xff\xff\xff\xff\xff\xff":                                   minusOne,
		"\x02\x01k\x01\x01s\x02\x00\x03" + five + "\xff\xff\xff\xff\xff\xff\xff\xff\x02ab" + five: two,
		"\x01\x01k\x04\x00\x00": {Cols: []api.Col{{Name: "k", Kind: api.Hist}}},
		"\x02\x18" + longestName + "\x04\x04b#_9\x03\x00\x01" + string(putInts(1, 2, 3, 4, 5, 6, 7, -8)) + "\x01": named,
		"\x01\x01b\x03\x10\x00" + strings.Repeat("\x01\x00\x00", 1365) + "\x01":                                   bools(4096),
		"\x01\x01b\x03\x01\x02" + strings.Repeat("\x01\x00\x00", 86):                                              bools(258),
	}
}

func putInts(l ...int) []byte {
	var b []byte
	for _, n := range l {
		b = binary.BigEndian.AppendUint64(b, uint64(n))
	}
	return b
}

func TestP4_2Encode(t *testing.T) {
	for body, x := range coded() {
		if b, e := wire.Encode(x); e != api.OK || !bytes.Equal(b, framed(body)) {
			t.Errorf("Encode of the table of %d bytes %.40q is %d bytes %.60q, %d", len(body), body, len(b), b, e)
		}
	}
	b, _ := wire.Encode(coded()["\x01\x01k\x01\x00\x01\xff\xff\xff\xff\xff\xff\xff\xff"])
	if !bytes.HasPrefix(b, []byte("\x00\x00\x00\x0e\x01\x01k\x01\x00\x01\xff")) || len(b) != 22 {
		t.Errorf("the chapter's table is %x", b)
	}
}

func TestP4_2EncodeOfTheFullest(t *testing.T) {
	x := fullest()
	b, e := wire.Encode(x)
	if want := 4 + 1 + 16*26 + 2 + 4096*16*65 + 4; e != api.OK || len(b) != want {
		t.Fatalf("%d bytes, %d; want %d", len(b), e, want)
	}
	if y, e := wire.Decode(b); e != api.OK || !table.Same(x, y) {
		t.Errorf("it does not come back: %d", e)
	}
}

func TestP4_2EncodeErrors(t *testing.T) {
	fits, short, other := row{value.OfBool(true)}, row{}, row{value.OfInt(1)}
	with := func(x api.Table, rows ...row) api.Table {
		x.Rows = append(x.Rows, rows...)
		return x
	}
	named := func(names ...string) api.Table {
		var x api.Table
		for _, n := range names {
			x.Cols = append(x.Cols, api.Col{Name: n, Kind: api.Bool})
		}
		return x
	}
	noCols := bools(4097)
	noCols.Cols = nil
	for _, x := range []struct {
		what string
		t    api.Table
		want api.Errno
	}{
		{"nothing", api.Table{}, api.ErrCols},
		{"17 columns", ints(17, 1), api.ErrCols},
		{"a name twice", named("a", "a"), api.ErrCols},
		{"an empty name", named(""), api.ErrCols},
		{"a name of 25 bytes", named(longestName + "y"), api.ErrCols},
		{"a name of 257 bytes", named("a" + strings.Repeat("b", 256)), api.ErrCols},
		{"a kind 5", api.Table{Cols: []api.Col{{Name: "a", Kind: 5}}}, api.ErrCols},
		{"a kind 257", api.Table{Cols: []api.Col{{Name: "a", Kind: 257}}}, api.ErrCols},
		{"no columns ahead of a row that does not fit", with(api.Table{}, fits), api.ErrCols},
		{"no columns ahead of too many rows", noCols, api.ErrCols},
		{"a row that is too short", with(bools(1), short), api.ErrRows},
		{"a row of another kind", with(bools(1), other), api.ErrRows},
		{"a value that is not valid", with(bools(1), row{{Kind: api.Bool, N: 2}}), api.ErrRows},
		{"a row that does not fit ahead of too many", with(bools(4096), short), api.ErrRows},
		{"a row that does not fit, far behind", with(bools(5000), other), api.ErrRows},
		{"4097 rows", bools(4097), api.ErrLong},
		{"65535 rows", bools(65535), api.ErrLong},
		{"65536 rows", bools(65536), api.ErrLong},
		{"65537 rows", bools(65537), api.ErrLong},
	} {
		if b, e := wire.Encode(x.t); e != x.want || len(b) != 0 {
			t.Errorf("Encode, %s: %d bytes, %d; want none, and %d", x.what, len(b), e, x.want)
		}
	}
}

func TestP4_2Decode(t *testing.T) {
	for body, want := range coded() {
		got, e := wire.Decode(framed(body))
		if e != api.OK || !table.Same(got, want) {
			t.Errorf("Decode of %d bytes %.40q: %d, %d columns, %d rows", len(body), body, e, len(got.Cols), len(got.Rows))
		}
	}
}

func wantNoTable(t *testing.T, what string, b []byte) {
	t.Helper()
	if got, e := wire.Decode(b); e != api.ErrBytes || got.Cols != nil || got.Rows != nil {
		t.Errorf("Decode, %s: %d, %d columns, %d rows; want nothing, and ErrBytes", what, e, len(got.Cols), len(got.Rows))
	}
}

func TestP4_2DecodeOfOtherBodies(t *testing.T) {
	col := func(name string, kind int) string {
		return string([]byte{byte(len(name))}) + name + string([]byte{byte(kind)})
	}
	many := func(n int) string {
		s := string([]byte{byte(n)})
		for k := range n {
			s += col("a"+strconv.Itoa(k), api.Bool)
		}
		return s + "\x00\x01" + strings.Repeat("\x01", n)
	}
	if _, e := wire.Decode(framed(many(16))); e != api.OK {
		t.Fatalf("16 columns: %d", e)
	}
	for what, body := range map[string]string{
		"nothing":                   "",
		"no columns":                "\x00\x00\x00",
		"no columns, a row":         "\x00\x00\x01",
		"no columns, and no more":   "\x00",
		"no row count":              "\x01" + col("a", 3),
		"half a row count":          "\x01" + col("a", 3) + "\x00",
		"17 columns":                many(17),
		"255 columns":               many(255),
		"fewer columns than told":   "\x02" + col("a", 3) + "\x00\x01\x01",
		"more columns than told":    "\x01" + col("a", 3) + col("b", 3) + "\x00\x00",
		"an empty name":             "\x01" + col("", 3) + "\x00\x00",
		"a name of 25 bytes":        "\x01" + col(longestName+"y", 3) + "\x00\x00",
		"a capital":                 "\x01" + col("A", 3) + "\x00\x00",
		"a digit first":             "\x01" + col("0a", 3) + "\x00\x00",
		"a name beyond the end":     "\x01\xffa\x03\x00\x00",
		"a name, and no kind":       "\x01\x01a",
		"a name twice":              "\x02" + col("a", 3) + col("a", 3) + "\x00\x00",
		"a name twice, other kinds": "\x03" + col("a", 3) + col("b", 1) + col("a", 2) + "\x00\x00",
		"kind 0":                    "\x01" + col("a", 0) + "\x00\x00",
		"kind 0, a row":             "\x01" + col("a", 0) + "\x00\x01",
		"kind 5":                    "\x01" + col("a", 5) + "\x00\x00",
		"kind 5, a row":             "\x01" + col("a", 5) + "\x00\x01\x01",
		"kind 255, a row":           "\x01" + col("a", 255) + "\x00\x01\x01",
		"a row less than told":      "\x01" + col("a", 3) + "\x00\x02\x01",
		"a row more than told":      "\x01" + col("a", 3) + "\x00\x01\x01\x01",
		"rows, and none told":       "\x01" + col("a", 3) + "\x00\x00\x01",
		"rows told the other way":   "\x01" + col("a", 3) + "\x01\x00\x01",
		"4097 rows":                 "\x01" + col("a", 3) + "\x10\x01" + strings.Repeat("\x01", 4097),
		"65535 rows":                "\x01" + col("a", 3) + "\xff\xff" + strings.Repeat("\x01", 65535),
		"65535 rows, none there":    "\x01" + col("a", 3) + "\xff\xff",
		"a Bool of 2":               "\x01" + col("a", 3) + "\x00\x01\x02",
		"a Str of 65 bytes":         "\x01" + col("a", 2) + "\x00\x01\x41" + strings.Repeat("z", 65),
		"a Str beyond the end":      "\x01" + col("a", 2) + "\x00\x01\x03ab",
		"an Int of seven bytes":     "\x01" + col("a", 1) + "\x00\x01\x00\x00\x00\x00\x00\x00\x07",
		"a Hist of seven buckets":   "\x01" + col("a", 4) + "\x00\x01" + string(putInts(1, 2, 3, 4, 5, 6, 7)),
		"half a row":                "\x02" + col("a", 3) + col("b", 3) + "\x00\x02\x01\x01\x00",
	} {
		wantNoTable(t, what, framed(body))
	}
}

func TestP4_2DecodeOfOtherFrames(t *testing.T) {
	const body = "\x01\x01k\x01\x00\x01\xff\xff\xff\xff\xff\xff\xff\xff"
	good := framed(body)
	if _, e := wire.Decode(good); e != api.OK {
		t.Fatal(e)
	}
	sum := string(good[len(good)-4:])
	swapped := []byte(sum)
	slices.Reverse(swapped)
	zlib := string(binary.BigEndian.AppendUint32(nil, crc32.ChecksumIEEE([]byte(body))))
	whole := string(binary.BigEndian.AppendUint32(nil, crc32.Checksum(good[:len(good)-4], crc32.MakeTable(crc32.Castagnoli))))
	for what, b := range map[string]string{
		"nothing":                      "",
		"a length alone":               "\x00\x00\x00\x00",
		"an empty body":                "\x00\x00\x00\x00\x00\x00\x00\x00",
		"no frame":                     body,
		"no sum":                       "\x00\x00\x00\x0e" + body,
		"a length too small":           "\x00\x00\x00\x0d" + body + sum,
		"a length too great":           "\x00\x00\x00\x0f" + body + sum,
		"a length with the frame":      "\x00\x00\x00\x16" + body + sum,
		"a length far beyond the end":  "\xff\xff\xff\xff" + body + sum,
		"a length of a high bit":       "\x80\x00\x00\x0e" + body + sum,
		"a length the other way":       "\x0e\x00\x00\x00" + body + sum,
		"a byte ahead":                 "\x00" + string(good),
		"a byte behind":                string(good) + "\x00",
		"twice":                        string(good) + string(good),
		"a sum the other way":          "\x00\x00\x00\x0e" + body + string(swapped),
		"another kind of sum":          "\x00\x00\x00\x0e" + body + zlib,
		"the sum of the length, too":   "\x00\x00\x00\x0e" + body + whole,
		"a sum of noughts":             "\x00\x00\x00\x0e" + body + "\x00\x00\x00\x00",
		"a sum of ones":                "\x00\x00\x00\x0e" + body + "\xff\xff\xff\xff",
		"a body with its last bytes 0": "\x00\x00\x00\x0e" + body[:10] + "\x00\x00\x00\x00" + sum,
	} {
		wantNoTable(t, what, []byte(b))
	}
	for n := range good {
		// The bytes that are missing still stand behind the end, where they must not be read.
		wantNoTable(t, "the first "+strconv.Itoa(n)+" bytes", good[:n])
		wantNoTable(t, "all but the first "+strconv.Itoa(n+1)+" bytes", good[n+1:])
	}
}

func manyTables() []api.Table {
	out := []api.Table{wide(), ints(1, 0), ints(1, 1), ints(16, 3), bools(255), bools(256), bools(257), bools(4095), bools(4096)}
	for _, x := range coded() {
		out = append(out, x)
	}
	for _, x := range samples() {
		out = append(out, api.Table{Cols: []api.Col{{Name: "a", Kind: x.v.Kind}}, Rows: []row{{x.v}, {x.v}}})
	}
	return out
}

func TestP4_3DecodeOfEncode(t *testing.T) {
	for _, x := range manyTables() {
		b, e := wire.Encode(x)
		if e != api.OK {
			t.Fatal(e)
		}
		if y, e := wire.Decode(b); e != api.OK || !table.Same(x, y) {
			t.Errorf("%d columns, %d rows come back as %d columns, %d rows, %d", len(x.Cols), len(x.Rows), len(y.Cols), len(y.Rows), e)
		}
	}
}

func TestP4_3EncodeOfDecode(t *testing.T) {
	for _, x := range manyTables() {
		b, _ := wire.Encode(x)
		y, _ := wire.Decode(b)
		if c, e := wire.Encode(y); e != api.OK || !bytes.Equal(b, c) {
			t.Errorf("%x came back as %x, %d", b, c, e)
		}
	}
}

// Bodies that are nearly right, each with its own sum: what Decode takes of them, Encode must give again.
func TestP4_3EncodeOfDecodeOfAnyBody(t *testing.T) {
	b, _ := wire.Encode(wide())
	body := b[4 : len(b)-4]
	taken := 0
	for at := range body {
		for c := range 256 {
			near := slices.Clone(body)
			near[at] = byte(c)
			in := framed(string(near))
			x, e := wire.Decode(in)
			if e != api.OK {
				wantNoTable(t, "a body with another byte "+strconv.Itoa(at), in)
				continue
			}
			taken++
			if out, e := wire.Encode(x); e != api.OK || !bytes.Equal(in, out) {
				t.Fatalf("%x came back as %x, %d", in, out, e)
			}
		}
	}
	if taken < len(body) {
		t.Errorf("only %d bodies were taken", taken)
	}
}

func TestP4_3OneBitTurned(t *testing.T) {
	for _, x := range []api.Table{wide(), ints(1, 0), ints(3, 2), bools(300), coded()["\x01\x01k\x04\x00\x00"]} {
		b, _ := wire.Encode(x)
		for k := range 8 * len(b) {
			b[k/8] ^= 1 << (k % 8)
			wantNoTable(t, "bit "+strconv.Itoa(k)+" turned", b)
			b[k/8] ^= 1 << (k % 8)
		}
		if _, e := wire.Decode(b); e != api.OK {
			t.Errorf("with no bit turned: %d", e)
		}
	}
}

func TestExamples(t *testing.T) {
	put := func(v api.Value) string { b, _ := wire.Put(nil, v); return string(b) }
	if put(value.OfInt(258)) != "\x00\x00\x00\x00\x00\x00\x01\x02" || put(value.OfStr("ab")) != "\x02\x61\x62" || put(value.OfBool(true)) != "\x01" {
		t.Error("Put")
	}
	if v, rest, e := wire.Take([]byte("\x02\x61\x62\x63"), api.Str); e != api.OK || v != value.OfStr("ab") || string(rest) != "\x63" {
		t.Error(v, rest, e)
	}
	wantNoValue(t, "\x02\x61", api.Str, api.ErrBytes)
	wantNoValue(t, "\x02", api.Bool, api.ErrBytes)
	x := api.Table{Cols: []api.Col{{Name: "k", Kind: api.Int}}, Rows: []row{{value.OfInt(-1)}}}
	if b, e := wire.Encode(x); e != api.OK || string(b) != string(framed("\x01\x01\x6b\x01\x00\x01\xff\xff\xff\xff\xff\xff\xff\xff")) {
		t.Errorf("%x, %d", b, e)
	}
	wantNoTable(t, "none", nil)
}

func TestR6SameEachTime(t *testing.T) {
	first, _ := wire.Encode(wide())
	wire.Decode([]byte("\xff\xff\xff\xff"))
	wire.Encode(bools(4097))
	wire.Take(nil, 9)
	again, e := wire.Encode(wide())
	if x, f := wire.Decode(first); e != api.OK || f != api.OK || !bytes.Equal(first, again) || !table.Same(x, wide()) {
		t.Error("what a call answers hangs on those ahead of it")
	}
}

// roomy is b with something in the room behind its end.
func roomy(b string) (list, all []byte) {
	all = append([]byte(b), bytes.Repeat([]byte{0xaa}, 100)...)
	return all[:len(b)], all
}

func TestR7PutTakesNewMemory(t *testing.T) {
	for _, ahead := range []string{"", "abc"} {
		list, all := roomy(ahead)
		was := slices.Clone(all)
		one, _ := wire.Put(list, value.OfStr("one"))
		two, _ := wire.Put(list, value.OfStr("two"))
		wire.Put(list, api.Value{})
		if !bytes.Equal(all, was) || string(one) != ahead+"\x03one" || string(two) != ahead+"\x03two" {
			t.Fatalf("Put wrote behind the end: %q, %q, %q", all, one, two)
		}
		scribble(one)
		if !bytes.Equal(all, was) {
			t.Error("Put answers memory that it was given")
		}
	}
}

func scribble(b []byte) {
	for k := range b[:cap(b)] {
		b[:cap(b)][k] = 0x55
	}
}

func TestR7TakeAnswersNewMemory(t *testing.T) {
	for _, s := range []string{"\x02abcd", "\x02ab"} {
		list, all := roomy(s)
		was := slices.Clone(all)
		v, rest, _ := wire.Take(list, api.Str)
		scribble(rest)
		if !bytes.Equal(all, was) {
			t.Error("Take answers memory that it was given")
		}
		v, rest, _ = wire.Take(list, api.Str)
		scribble(all)
		if v.S != "ab" || string(rest) != s[3:] {
			t.Errorf("Take's answer changed: %v, %q", v, rest)
		}
	}
}

func TestR7EncodeLeavesTheTable(t *testing.T) {
	x := wide()
	a, _ := wire.Encode(x)
	if !table.Same(x, wide()) {
		t.Error("Encode changed the table")
	}
	b, _ := wire.Encode(x)
	was := slices.Clone(b)
	scribble(a)
	x.Rows[0][0], x.Cols[0].Name = value.OfInt(99), "other"
	if !bytes.Equal(b, was) {
		t.Error("Encode's answer changed")
	}
}

func TestR7DecodeAnswersNewMemory(t *testing.T) {
	b, _ := wire.Encode(wide())
	list, all := roomy(string(b))
	was := slices.Clone(all)
	x, _ := wire.Decode(list)
	if !bytes.Equal(all, was) {
		t.Error("Decode changed the bytes")
	}
	scribble(all)
	if !table.Same(x, wide()) {
		t.Error("Decode's answer changed with the bytes")
	}
	for k, r := range x.Rows {
		for n := range r[:cap(r)] {
			r[:cap(r)][n] = value.OfInt(1234)
		}
		if k+1 < len(x.Rows) && !slices.Equal(x.Rows[k+1], wide().Rows[k+1]) {
			t.Fatalf("the rows %d and %d share memory", k, k+1)
		}
	}
}
