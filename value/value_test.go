package value_test

import (
	"math"
	"strings"
	"testing"

	"catchment/api"
	"catchment/value"
)

func hist(h ...int) api.Value {
	v := api.Value{Kind: api.Hist}
	copy(v.H[:], h)
	return v
}

// validOnes are values that may be, at the edges of what may.
func validOnes() []api.Value {
	return []api.Value{
		value.OfInt(math.MinInt), value.OfInt(-1), value.OfInt(0), value.OfInt(1), value.OfInt(math.MaxInt),
		value.OfStr(""), value.OfStr("\x00"), value.OfStr("a"), value.OfStr("ab"), value.OfStr("b"), value.OfStr("\xff"),
		value.OfStr(strings.Repeat("z", 64)),
		value.OfBool(false), value.OfBool(true),
		hist(), hist(-1), hist(1), hist(1, 2), hist(0, 0, 0, 0, 0, 0, 0, 1),
		hist(math.MaxInt, math.MinInt, 1, -1, 0, 7, 8, math.MaxInt), hist(math.MaxInt, math.MinInt, 1, -1, 0, 7, 8, math.MinInt),
	}
}

// wrongOnes are values that may not be, each for one reason alone.
func wrongOnes() []api.Value {
	last := [8]int{7: 1}
	return []api.Value{
		{}, {Kind: -1}, {Kind: 5}, {Kind: math.MinInt}, {Kind: math.MaxInt}, {Kind: 0, N: 1}, {Kind: 5, S: "a"},
		{Kind: api.Int, S: "x"}, {Kind: api.Int, N: 3, S: "\x00"}, {Kind: api.Int, H: [8]int{1}}, {Kind: api.Int, H: last},
		{Kind: api.Str, N: 1}, {Kind: api.Str, S: "a", N: -1}, {Kind: api.Str, S: "a", H: [8]int{-1}}, {Kind: api.Str, H: last},
		{Kind: api.Str, S: strings.Repeat("z", 65)}, {Kind: api.Str, S: strings.Repeat("z", 1000)},
		{Kind: api.Bool, N: 2}, {Kind: api.Bool, N: -1}, {Kind: api.Bool, S: "x"}, {Kind: api.Bool, N: 1, S: "x"}, {Kind: api.Bool, H: [8]int{1}}, {Kind: api.Bool, N: 1, H: last},
		{Kind: api.Hist, N: 1}, {Kind: api.Hist, S: "x"}, {Kind: api.Hist, N: -1, H: last}, {Kind: api.Hist, S: "x", H: [8]int{1}},
	}
}

func allOnes() []api.Value { return append(validOnes(), wrongOnes()...) }

func TestP1_1Valid(t *testing.T) {
	for _, v := range validOnes() {
		if !value.Valid(v) {
			t.Errorf("Valid(%v) is false", v)
		}
	}
	for _, v := range wrongOnes() {
		if value.Valid(v) {
			t.Errorf("Valid(%v) is true", v)
		}
	}
}

func TestP1_1ValidCountsBytes(t *testing.T) {
	if !value.Valid(api.Value{Kind: api.Str, S: strings.Repeat("é", 32)}) {
		t.Error("32 letters of two bytes each are 64 bytes, and valid")
	}
	if value.Valid(api.Value{Kind: api.Str, S: strings.Repeat("é", 33)}) {
		t.Error("33 letters of two bytes each are 66 bytes, and not valid")
	}
}

func TestP1_1Compare(t *testing.T) {
	long := strings.Repeat("z", 64)
	for _, x := range []struct {
		a, b api.Value
		want int
	}{
		{value.OfInt(1), value.OfInt(2), -1},
		{value.OfStr("b"), value.OfStr("a"), 1},
		{value.OfInt(5), value.OfStr("a"), -1},
		{value.OfBool(true), value.OfBool(false), 1},
		{value.OfInt(math.MinInt), value.OfInt(math.MaxInt), -1},
		{value.OfInt(math.MaxInt), value.OfInt(-1), 1},
		{value.OfInt(7), value.OfInt(7), 0},
		{value.OfStr("z"), value.OfBool(false), -1},
		{value.OfBool(true), hist(), -1},
		{value.OfStr(""), value.OfStr("\x00"), -1},
		{value.OfStr("a"), value.OfStr("ab"), -1},
		{value.OfStr("ab"), value.OfStr("b"), -1},
		{value.OfStr("Z"), value.OfStr("a"), -1},
		{value.OfStr("é"), value.OfStr("z"), 1},
		{value.OfStr("\xff"), value.OfStr("\U0010ffff"), 1},
		{value.OfStr("\xfe"), value.OfStr("\xff"), -1},
		{value.OfStr(long[:63] + "a"), value.OfStr(long), -1},
		{hist(1), hist(0, 9), 1},
		{hist(1, 2), hist(1, 3), -1},
		{hist(0, 0, 0, 0, 0, 0, 0, -1), hist(), -1},
		{hist(math.MinInt), hist(math.MaxInt), -1},
		{hist(1, 2, 3, 4, 5, 6, 7, 8), hist(1, 2, 3, 4, 5, 6, 7, 8), 0},
		{api.Value{Kind: -3}, api.Value{}, -1},
		{api.Value{Kind: 9, N: 1}, api.Value{Kind: 9, S: "z"}, 1},
		{api.Value{Kind: api.Int, N: 1, S: "a"}, api.Value{Kind: api.Int, N: 1, S: "b"}, -1},
		{api.Value{Kind: api.Int, S: "b"}, api.Value{Kind: api.Int, S: "a", H: [8]int{1}}, 1},
		{api.Value{Kind: api.Str, S: "a", H: [8]int{1}}, api.Value{Kind: api.Str, S: "a", H: [8]int{2}}, -1},
		{api.Value{Kind: api.Str, S: long + "a"}, api.Value{Kind: api.Str, S: long + "b"}, -1},
		{api.Value{Kind: api.Bool, N: 2}, api.Value{Kind: api.Bool, N: 1}, 1},
	} {
		if got := value.Compare(x.a, x.b); got != x.want {
			t.Errorf("Compare(%v, %v) = %d, want %d", x.a, x.b, got, x.want)
		}
		if got := value.Compare(x.b, x.a); got != -x.want {
			t.Errorf("Compare(%v, %v) = %d, want %d", x.b, x.a, got, -x.want)
		}
	}
}

// holdsFor tells the ways of comparing that hold, by what Compare answers.
func holdsFor(c int) [7]bool {
	switch c {
	case -1:
		return [7]bool{api.Ne: true, api.Lt: true, api.Le: true}
	case 0:
		return [7]bool{api.Eq: true, api.Le: true, api.Ge: true}
	}
	return [7]bool{api.Ne: true, api.Gt: true, api.Ge: true}
}

func TestP1_2HoldsForOneKind(t *testing.T) {
	for _, x := range []struct {
		a, b api.Value
		c    int
	}{
		{value.OfInt(1), value.OfInt(2), -1},
		{value.OfInt(2), value.OfInt(2), 0},
		{value.OfInt(3), value.OfInt(2), 1},
		{value.OfStr("a"), value.OfStr("ab"), -1},
		{value.OfStr("a"), value.OfStr("a"), 0},
		{value.OfBool(true), value.OfBool(false), 1},
		{hist(1), hist(1), 0},
		{hist(1), hist(1, 1), -1},
		{api.Value{Kind: 9}, api.Value{Kind: 9}, 0},
		{api.Value{Kind: api.Int, S: "x"}, value.OfInt(0), 1},
	} {
		for how, want := range holdsFor(x.c) {
			if got := value.Holds(how, x.a, x.b); got != want {
				t.Errorf("Holds(%d, %v, %v) = %v", how, x.a, x.b, got)
			}
		}
	}
}

func TestP1_2HoldsForNoOtherKinds(t *testing.T) {
	all := allOnes()
	for how := -1; how <= 8; how++ {
		for _, a := range all {
			for _, b := range all {
				if a.Kind != b.Kind && value.Holds(how, a, b) {
					t.Fatalf("Holds(%d, %v, %v) is true", how, a, b)
				}
			}
		}
	}
}

func TestP1_2HoldsForNoOtherWay(t *testing.T) {
	for _, how := range []int{math.MinInt, -1, 0, 7, 8, 9, 1 << 32, 1<<32 + api.Eq, math.MaxInt} {
		for _, b := range []int{0, 1, 2} {
			if value.Holds(how, value.OfInt(1), value.OfInt(b)) {
				t.Errorf("Holds(%d, 1, %d) is true", how, b)
			}
		}
	}
}

func TestP1_3Add(t *testing.T) {
	for _, x := range []struct{ a, b, want api.Value }{
		{value.OfInt(2), value.OfInt(3), value.OfInt(5)},
		{value.OfInt(2), value.OfInt(-3), value.OfInt(-1)},
		{value.OfInt(math.MaxInt), value.OfInt(1), value.OfInt(math.MinInt)},
		{value.OfInt(math.MinInt), value.OfInt(-1), value.OfInt(math.MaxInt)},
		{value.OfInt(math.MinInt), value.OfInt(math.MinInt), value.OfInt(0)},
		{value.OfInt(math.MaxInt), value.OfInt(math.MaxInt), value.OfInt(-2)},
		{hist(), hist(), hist()},
		{hist(1, 2, 3, 4, 5, 6, 7, 8), hist(10, 20, 30, 40, 50, 60, 70, 80), hist(11, 22, 33, 44, 55, 66, 77, 88)},
		{hist(math.MaxInt, 0, 0, 0, 0, 0, 0, math.MinInt), hist(1, 0, 0, 0, 0, 0, 0, -1), hist(math.MinInt, 0, 0, 0, 0, 0, 0, math.MaxInt)},
		{value.Bucket(10), value.Bucket(99), hist(0, 0, 2)},
	} {
		a, b := x.a, x.b
		if got, e := value.Add(x.a, x.b); e != api.OK || got != x.want {
			t.Errorf("Add(%v, %v) = %v, %d; want %v", x.a, x.b, got, e, x.want)
		}
		if a != x.a || b != x.b {
			t.Errorf("Add changed what it was given: %v, %v", x.a, x.b)
		}
	}
}

func TestP1_3AddOfOtherKinds(t *testing.T) {
	for _, a := range allOnes() {
		for _, b := range allOnes() {
			fine := value.Valid(a) && value.Valid(b) && a.Kind == b.Kind && (a.Kind == api.Int || a.Kind == api.Hist)
			got, e := value.Add(a, b)
			if fine != (e == api.OK) {
				t.Errorf("Add(%v, %v) answers %d", a, b, e)
			}
			if !fine && (e != api.ErrKind || got != (api.Value{})) {
				t.Errorf("Add(%v, %v) = %v, %d; want nothing, and ErrKind", a, b, got, e)
			}
		}
	}
}

func TestP1_4Bucket(t *testing.T) {
	for _, x := range []struct{ n, k int }{
		{math.MinInt, 0}, {-1000000, 0}, {-1, 0}, {0, 0},
		{1, 1}, {2, 1}, {9, 1},
		{10, 2}, {11, 2}, {99, 2},
		{100, 3}, {999, 3},
		{1000, 4}, {9999, 4},
		{10000, 5}, {99999, 5},
		{100000, 6}, {999999, 6},
		{1000000, 7}, {1000001, 7}, {9999999, 7}, {10000000, 7}, {1000000000, 7}, {math.MaxInt, 7},
	} {
		want := api.Value{Kind: api.Hist}
		want.H[x.k] = 1
		if got := value.Bucket(x.n); got != want {
			t.Errorf("Bucket(%d) = %v, want the bucket %d", x.n, got, x.k)
		}
	}
}

func TestP1_5Text(t *testing.T) {
	for _, x := range []struct {
		v    api.Value
		want string
	}{
		{value.OfInt(0), "0"},
		{value.OfInt(-5), "-5"},
		{value.OfInt(120), "120"},
		{value.OfInt(math.MaxInt), "9223372036854775807"},
		{value.OfInt(math.MinInt), "-9223372036854775808"},
		{value.OfStr(""), `""`},
		{value.OfStr("a b"), `"a b"`},
		{value.OfStr(`a"b`), `"a\"b"`},
		{value.OfStr(`\`), `"\\"`},
		{value.OfStr(`"\"`), `"\"\\\""`},
		{value.OfStr("'\t\n\x00"), "\"'\t\n\x00\""},
		{value.OfStr("\xff\xc3é"), "\"\xff\xc3é\""},
		{value.OfStr(strings.Repeat(`"`, 64)), `"` + strings.Repeat(`\"`, 64) + `"`},
		{value.OfBool(true), "true"},
		{value.OfBool(false), "false"},
		{value.Bucket(1), "[0 1 0 0 0 0 0 0]"},
		{hist(1, -2, 30, 4, 5, 6, 7, math.MinInt), "[1 -2 30 4 5 6 7 -9223372036854775808]"},
	} {
		if got := value.Text(x.v); got != x.want {
			t.Errorf("Text(%v) = %q, want %q", x.v, got, x.want)
		}
	}
	for _, v := range wrongOnes() {
		if got := value.Text(v); got != "" {
			t.Errorf("Text(%v) = %q, want nothing", v, got)
		}
	}
}

func TestP1_5Of(t *testing.T) {
	for _, n := range []int{math.MinInt, -1, 0, 1, math.MaxInt} {
		if got := value.OfInt(n); got != (api.Value{Kind: api.Int, N: n}) {
			t.Errorf("OfInt(%d) = %v", n, got)
		}
	}
	if got := value.OfBool(true); got != (api.Value{Kind: api.Bool, N: 1}) {
		t.Errorf("OfBool(true) = %v", got)
	}
	if got := value.OfBool(false); got != (api.Value{Kind: api.Bool}) {
		t.Errorf("OfBool(false) = %v", got)
	}
}

func TestP1_5OfStrIsCut(t *testing.T) {
	digits := strings.Repeat("0123456789", 100)
	for _, n := range []int{0, 1, 63, 64, 65, 66, 1000} {
		want := digits[:min(n, 64)]
		if got := value.OfStr(digits[:n]); got != (api.Value{Kind: api.Str, S: want}) {
			t.Errorf("OfStr of %d bytes = %v", n, got)
		}
	}
	// The 64th byte is the first half of a letter: bytes are counted, and the letter is cut.
	s := strings.Repeat("x", 63) + "é"
	if got := value.OfStr(s); got.S != s[:64] {
		t.Errorf("OfStr(%q) = %q", s, got.S)
	}
}

func TestP1_6CompareIsAnOrder(t *testing.T) {
	all := allOnes()
	for _, a := range all {
		for _, b := range all {
			ab := value.Compare(a, b)
			if ab < -1 || ab > 1 || ab != -value.Compare(b, a) || (ab == 0) != (a == b) {
				t.Fatalf("Compare(%v, %v) = %d, and the other way round %d", a, b, ab, value.Compare(b, a))
			}
			for _, c := range all {
				if ab < 0 && value.Compare(b, c) < 0 && value.Compare(a, c) >= 0 {
					t.Fatalf("%v stands ahead of %v, and this of %v, but not the first of the last", a, b, c)
				}
			}
		}
	}
}

func TestP1_6AddEitherWay(t *testing.T) {
	all := allOnes()
	for _, a := range all {
		for _, b := range all {
			ab, e := value.Add(a, b)
			ba, f := value.Add(b, a)
			if ab != ba || e != f {
				t.Fatalf("Add(%v, %v) = %v, %d, but with sides changed %v, %d", a, b, ab, e, ba, f)
			}
			for _, c := range all {
				left, le := value.Add(ab, c)
				bc, _ := value.Add(b, c)
				right, re := value.Add(a, bc)
				if left != right || le != re {
					t.Fatalf("of %v, %v and %v: %v, %d or %v, %d", a, b, c, left, le, right, re)
				}
			}
		}
	}
}
