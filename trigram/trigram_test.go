package trigram_test

import (
	"math"
	"strings"
	"testing"

	"catchment/api"
	"catchment/trigram"
)

// all are all bits.
var all = api.Bits{math.MaxUint64, math.MaxUint64, math.MaxUint64, math.MaxUint64}

// bit is the fingerprint with that bit alone, as the chapter counts them.
func bit(n int) api.Bits {
	var out api.Bits
	out[n/64] = 1 << (n % 64)
	return out
}

// has tells whether a has the bit n.
func has(a api.Bits, n int) bool { return a[n/64]>>(n%64)&1 == 1 }

// from is the fingerprint with those bits, one by one, for which want holds.
func from(want func(n int) bool) api.Bits {
	var out api.Bits
	for n := range 256 {
		if want(n) {
			out[n/64] += 1 << (n % 64)
		}
	}
	return out
}

// byRule is the document's rule for Of, word by word.
func byRule(s string) api.Bits {
	there := map[int]int{}
	for k := 2; k < len(s); k++ {
		a, b, c := int(s[k-2]), int(s[k-1]), int(s[k])
		there[(961*a+31*b+c)%256]++
	}
	return from(func(n int) bool { return there[n] > 0 })
}

// mixed is a text of n bytes of all sorts, the same each time; unlike seeds give unlike texts.
func mixed(n int, seed uint32) string {
	b := make([]byte, n)
	for k := range b {
		seed = seed*1664525 + 1013904223
		b[k] = byte(seed >> 24)
	}
	return string(b)
}

// texts are such as a Str may be, and others.
func texts() []string {
	l := []string{
		"", "a", "ab", "abc", "abcd", "web", "web2", "web server", "eb s", "dbx", "aaaa", "abab", "\x01\x02", "\x01\x01\x02\x02", "\x00", "\x00\x00\x00",
		"\xff\xff\xff", "\xff\xfe\xfd\xfc", "\n\t \"\\", "äöü", "日本語", "\u2028", strings.Repeat("x", api.MaxText), strings.Repeat("xyz", 100),
	}
	for n := range 80 {
		l = append(l, mixed(n, uint32(n)))
	}
	return l
}

// prints are fingerprints of all sorts.
func prints() []api.Bits {
	l := []api.Bits{{}, all, {math.MaxUint64}, {3: math.MaxUint64}, {1, 1, 1, 1}, {1 << 63, 1 << 63, 1 << 63, 1 << 63}, {0xaaaaaaaaaaaaaaaa, 0x5555555555555555, 0, 1}}
	for _, n := range []int{0, 1, 62, 63, 64, 65, 98, 127, 128, 191, 192, 254, 255} {
		l = append(l, bit(n))
	}
	for n := range 12 {
		l = append(l, byRule(mixed(7*n, uint32(n))))
	}
	return l
}

func wantOf(t *testing.T, s string, want api.Bits) {
	t.Helper()
	if got := trigram.Of(s); got != want {
		t.Errorf("Of(%q) is %x, not %x", s, got, want)
	}
}

func wantWithin(t *testing.T, a, b api.Bits, want bool) {
	t.Helper()
	if got := trigram.Within(a, b); got != want {
		t.Errorf("Within(%x, %x) is %v", a, b, got)
	}
}

func TestExamples(t *testing.T) {
	wantOf(t, "ab", api.Bits{})
	if n := trigram.Count(trigram.Of("abc")); n != 1 {
		t.Errorf("Count is %d", n)
	}
	wantOf(t, "abc", bit(98))
	wantWithin(t, trigram.Of("eb s"), trigram.Of("web server"), true)
	wantWithin(t, trigram.Of("dbx"), trigram.Of("web"), false)
}

// The bit 98 is bit 34, from the lowest on, of the second word.
func TestP9_1WhereABitStands(t *testing.T) {
	wantOf(t, "abc", api.Bits{1: 1 << 34})
	for _, x := range []struct {
		c    byte
		want api.Bits
	}{
		{0, api.Bits{0: 1}}, {1, api.Bits{0: 2}}, {63, api.Bits{0: 1 << 63}}, {64, api.Bits{1: 1}}, {127, api.Bits{1: 1 << 63}}, {128, api.Bits{2: 1}},
		{191, api.Bits{2: 1 << 63}}, {192, api.Bits{3: 1}}, {255, api.Bits{3: 1 << 63}},
	} {
		wantOf(t, string([]byte{0, 0, x.c}), x.want)
	}
}

// Each of the three bytes counts by its own number, and beyond 256 it begins anew.
func TestP9_1ThreeBytes(t *testing.T) {
	for n := range 256 {
		c := byte(n)
		wantOf(t, string([]byte{c, 0, 0}), bit(961*n%256))
		wantOf(t, string([]byte{0, c, 0}), bit(31*n%256))
		wantOf(t, string([]byte{0, 0, c}), bit(n))
		wantOf(t, string([]byte{c, 255, 255}), bit((961*n+31*255+255)%256))
		wantOf(t, string([]byte{255, c, 255}), bit((961*255+31*n+255)%256))
		wantOf(t, string([]byte{255, 255, c}), bit((961*255+31*255+n)%256))
	}
	wantOf(t, "\xff\xff\xff", bit(31))
}

// A text of fewer than three bytes has no three: whatever the bytes.
func TestP9_1FewBytes(t *testing.T) {
	wantOf(t, "", api.Bits{})
	for a := range 256 {
		wantOf(t, string([]byte{byte(a)}), api.Bits{})
		for b := range 256 {
			wantOf(t, string([]byte{byte(a), byte(b)}), api.Bits{})
		}
	}
}

// Bytes count, not letters: one letter of three bytes has a bit, and bytes that are no letter's have theirs.
func TestP9_1Bytes(t *testing.T) {
	wantOf(t, "ä", api.Bits{})
	wantOf(t, "日", bit((961*0xe6+31*0x97+0xa5)%256))
	wantOf(t, "äa", bit((961*0xc3+31*0xa4+'a')%256))
	wantOf(t, "\xe6\x97\xff", bit((961*0xe6+31*0x97+0xff)%256))
}

// Those alone that stand side by side: neither around the end, nor with gaps, nor behind the first three only.
func TestP9_1SideBySide(t *testing.T) {
	wantOf(t, "abcd", trigram.Join(trigram.Of("abc"), trigram.Of("bcd")))
	for _, other := range []string{"cda", "dab", "abd", "acd", "cba", "dcb"} {
		if trigram.Within(byRule(other), trigram.Of("abcd")) {
			t.Errorf("abcd has the bit of %s", other)
		}
	}
	wantOf(t, "aaaaaaaa", trigram.Of("aaa"))
	wantOf(t, "abcabcabc", byRule("abcab"))
}

func TestP9_1ByTheRule(t *testing.T) {
	for _, s := range texts() {
		wantOf(t, s, byRule(s))
		if got, want := trigram.Whole(s), byRule("\x01"+s+"\x02"); got != want {
			t.Errorf("Whole(%q) is %x, not %x", s, got, want)
		}
	}
	for _, n := range []int{1000, 1 << 20} {
		wantOf(t, mixed(n, 5), byRule(mixed(n, 5)))
	}
	wantOf(t, mixed(1<<20, 5), all)
}

func TestP9_1Whole(t *testing.T) {
	for _, x := range []struct {
		s    string
		want api.Bits
	}{
		{"", api.Bits{}},
		{"a", bit((961*1 + 31*'a' + 2) % 256)},
		{"ab", trigram.Join(bit((961*1+31*'a'+'b')%256), bit((961*'a'+31*'b'+2)%256))},
		{"\x01", bit((961*1 + 31*1 + 2) % 256)},
		{"\x02", bit((961*1 + 31*2 + 2) % 256)},
		{"\x00", bit((961*1 + 2) % 256)},
		{"\xff", bit((961*1 + 31*255 + 2) % 256)},
	} {
		if got := trigram.Whole(x.s); got != x.want {
			t.Errorf("Whole(%q) is %x, not %x", x.s, got, x.want)
		}
	}
	if trigram.Whole("web") == trigram.Of("web") || trigram.Whole("ab") == trigram.Whole("ba") {
		t.Error("the ends have no bits")
	}
}

func TestP9_2Join(t *testing.T) {
	for _, a := range prints() {
		for _, b := range prints() {
			want := from(func(n int) bool { return has(a, n) || has(b, n) })
			if got := trigram.Join(a, b); got != want || got != trigram.Join(b, a) {
				t.Errorf("Join(%x, %x) is %x, not %x", a, b, got, want)
			}
		}
		if trigram.Join(a, api.Bits{}) != a || trigram.Join(a, a) != a || trigram.Join(a, all) != all {
			t.Errorf("Join of %x with none, itself or all", a)
		}
	}
}

func TestP9_2Within(t *testing.T) {
	for _, a := range prints() {
		for _, b := range prints() {
			want := true
			for n := range 256 {
				want = want && (!has(a, n) || has(b, n))
			}
			wantWithin(t, a, b, want)
		}
		wantWithin(t, a, a, true)
		wantWithin(t, api.Bits{}, a, true)
		wantWithin(t, a, all, true)
		wantWithin(t, a, api.Bits{}, a == api.Bits{})
		wantWithin(t, all, a, a == all)
	}
}

// One bit that is lacking is enough, wherever it stands; one more on the other side is not.
func TestP9_2WithinByOneBit(t *testing.T) {
	for n := range 256 {
		rest := from(func(k int) bool { return k != n })
		wantWithin(t, bit(n), rest, false)
		wantWithin(t, all, rest, false)
		wantWithin(t, rest, all, true)
		wantWithin(t, bit(n), bit(n), true)
		wantWithin(t, bit(n), bit((n+64)%256), false)
		wantWithin(t, bit(n), bit((n+1)%256), false)
	}
}

func TestP9_2Count(t *testing.T) {
	for _, a := range prints() {
		want := 0
		for n := range 256 {
			if has(a, n) {
				want++
			}
		}
		if got := trigram.Count(a); got != want {
			t.Errorf("Count(%x) is %d, not %d", a, got, want)
		}
	}
	if trigram.Count(api.Bits{}) != 0 || trigram.Count(all) != 256 {
		t.Errorf("Count of none is %d, of all %d", trigram.Count(api.Bits{}), trigram.Count(all))
	}
	var upTo api.Bits
	for n := range 256 {
		if trigram.Count(bit(n)) != 1 {
			t.Errorf("Count of the bit %d is %d", n, trigram.Count(bit(n)))
		}
		upTo = trigram.Join(upTo, bit(n))
		if trigram.Count(upTo) != n+1 {
			t.Errorf("Count of the bits to %d is %d", n, trigram.Count(upTo))
		}
	}
}

func TestP9_3Parts(t *testing.T) {
	for _, s := range texts() {
		of, whole := trigram.Of(s), trigram.Whole(s)
		wantWithin(t, of, whole, true)
		for i := range len(s) + 1 {
			for j := i; j <= len(s); j++ {
				if part := trigram.Of(s[i:j]); !trigram.Within(part, of) || !trigram.Within(part, whole) {
					t.Errorf("%q is a part of %q, but not within", s[i:j], s)
				}
			}
		}
	}
}

// What is not within the fingerprint of some texts is a part of none of them, and as a whole none of them.
func TestP9_3NoPartOfAny(t *testing.T) {
	kept := []string{"web", "web server", "db1", "", "x", "日本語"}
	var sum api.Bits
	for _, s := range kept {
		sum = trigram.Join(sum, trigram.Whole(s))
	}
	ruledOut := 0
	for _, s := range append(texts(), "we", "eb", "server", "erve", "b1", "db", "db2", "b11", "本語", "本日") {
		part, whole := trigram.Within(trigram.Of(s), sum), trigram.Within(trigram.Whole(s), sum)
		for _, k := range kept {
			if !part && strings.Contains(k, s) || !whole && k == s {
				t.Errorf("%q is ruled out, but there is %q", s, k)
			}
		}
		if !part {
			ruledOut++
		}
	}
	if ruledOut == 0 {
		t.Error("nothing is ruled out")
	}
	wantWithin(t, trigram.Of("db2"), sum, false)
	wantWithin(t, trigram.Whole("we"), sum, false)
}

func TestR6SameEachTime(t *testing.T) {
	of, whole := trigram.Of("web server"), trigram.Whole("web server")
	for _, s := range texts() {
		trigram.Of(s)
		trigram.Join(of, trigram.Whole(s))
	}
	if trigram.Of("web server") != of || trigram.Whole("web server") != whole {
		t.Error("what a call answers hangs on those ahead of it")
	}
	long := "the web server there"
	wantOf(t, long[4:14], of)
}

// Fingerprints are values: what becomes of an answer is seen by no other one.
func TestR7AnsweredIsOwn(t *testing.T) {
	a, b := trigram.Of("abc"), trigram.Of("web")
	x := trigram.Join(a, b)
	x[0], x[1] = 7, 7
	if a != byRule("abc") || b != byRule("web") || trigram.Join(a, b) == x {
		t.Error("an answer that was written over is seen by others")
	}
}
