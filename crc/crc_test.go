package crc_test

import (
	"bytes"
	"hash/crc32"
	"math"
	"slices"
	"strconv"
	"testing"

	"catchment/crc"
)

// bitwise is the document's rule, word by word.
func bitwise(b []byte) uint32 {
	r := uint32(0xffffffff)
	for _, c := range b {
		r ^= uint32(c)
		for range 8 {
			if r&1 == 1 {
				r = (r >> 1) ^ 0x82f63b78
			} else {
				r >>= 1
			}
		}
	}
	return ^r
}

// mixed is n bytes of all sorts, the same each time; unlike seeds give unlike bytes.
func mixed(n int, seed uint32) []byte {
	b := make([]byte, n)
	for k := range b {
		seed = seed*1664525 + 1013904223
		b[k] = byte(seed >> 24)
	}
	return b
}

func upTo(n int) []byte {
	b := make([]byte, n)
	for k := range b {
		b[k] = byte(k)
	}
	return b
}

func downFrom(n int) []byte {
	b := upTo(n)
	slices.Reverse(b)
	return b
}

// together is a and b, one behind the other, in new memory.
func together(a, b []byte) []byte { return slices.Concat(a, b) }

func hex(n uint32) string { return strconv.FormatUint(uint64(n), 16) }

func TestP3_1SumOfKnownBytes(t *testing.T) {
	for _, c := range []struct {
		b    []byte
		want uint32
	}{
		{[]byte("123456789"), 0xe3069283},
		{[]byte("a"), 0xc1d04330},
		{[]byte("abc"), 0x364b3fb7},
		{[]byte{0}, 0x527d5351},
		{[]byte{0xff}, 0xff000000},
		{make([]byte, 32), 0x8a9136aa},
		{bytes.Repeat([]byte{0xff}, 32), 0x62a8ab43},
		{upTo(32), 0x46dd794e},
		{downFrom(32), 0x113fdb5c},
	} {
		if got := crc.Sum(c.b); got != c.want {
			t.Errorf("Sum(%q) is %s, not %s", c.b, hex(got), hex(c.want))
		}
	}
}

func TestP3_1SumByTheRule(t *testing.T) {
	castagnoli := crc32.MakeTable(crc32.Castagnoli)
	check := func(b []byte) {
		t.Helper()
		if got := crc.Sum(b); got != bitwise(b) || got != crc32.Checksum(b, castagnoli) {
			t.Errorf("Sum of %d bytes %x.. is %s, not %s", len(b), b[:min(8, len(b))], hex(got), hex(bitwise(b)))
		}
	}
	for c := range 256 {
		check([]byte{byte(c)})
		check([]byte{0x31, byte(c), 0x33})
	}
	for n := range 300 {
		check(mixed(n, uint32(n)))
	}
	check(mixed(1<<20, 7))
}

func TestP3_1MoreGoesOn(t *testing.T) {
	b := []byte("123456789")
	for k := range len(b) + 1 {
		if got := crc.More(crc.Sum(b[:k]), b[k:]); got != 0xe3069283 {
			t.Errorf("split at %d: %s", k, hex(got))
		}
	}
	for n := range 40 {
		for m := range 40 {
			x, y := mixed(n, 3), mixed(m, 5)
			if got, want := crc.More(crc.Sum(x), y), crc.Sum(together(x, y)); got != want {
				t.Errorf("%d and %d bytes: %s, not %s", n, m, hex(got), hex(want))
			}
		}
	}
}

func TestP3_1MoreByteByByte(t *testing.T) {
	b := mixed(1000, 11)
	var sum uint32
	for k, c := range b {
		sum = crc.More(sum, []byte{c})
		if sum != crc.Sum(b[:k+1]) {
			t.Fatalf("after %d bytes: %s, not %s", k+1, hex(sum), hex(crc.Sum(b[:k+1])))
		}
	}
}

// with is four bytes whose sum is that number: each number is the sum of some four bytes, so that More can be held to the rule for all.
func with(sum uint32) []byte {
	r := ^sum
	for range 32 {
		if r>>31 == 1 {
			r = (r^0x82f63b78)<<1 | 1
		} else {
			r <<= 1
		}
	}
	r ^= 0xffffffff
	return []byte{byte(r), byte(r >> 8), byte(r >> 16), byte(r >> 24)}
}

func TestP3_1MoreOfEachNumber(t *testing.T) {
	sums := []uint32{0, 1, 2, 0x80000000, 0x7fffffff, 0xffffffff, 0xfffffffe, 0x82f63b78, 0xe3069283, 0xdeadbeef}
	for k := range 32 {
		sums = append(sums, 1<<k, ^uint32(1<<k))
	}
	for _, sum := range sums {
		a := with(sum)
		if crc.Sum(a) != sum {
			t.Errorf("Sum(%x) is %s, not %s", a, hex(crc.Sum(a)), hex(sum))
		}
		for _, b := range [][]byte{nil, {0}, []byte("b"), []byte("123456789"), mixed(100, sum)} {
			if got, want := crc.More(sum, b), bitwise(together(a, b)); got != want {
				t.Errorf("More(%s, %x) is %s, not %s", hex(sum), b, hex(got), hex(want))
			}
		}
	}
}

func TestP3_2Slot(t *testing.T) {
	b := []byte("123456789") // its sum is 3808858755
	for _, c := range []struct{ n, want int }{
		{10, 5}, {1, 0}, {2, 1}, {3, 0}, {4, 3}, {7, 3808858755 % 7}, {64, 3}, {1000, 755},
		{3808858754, 1}, {3808858755, 0}, {3808858756, 3808858755},
		{1 << 31, 3808858755 - 1<<31}, {1<<31 - 1, 3808858755 - (1<<31 - 1)},
		{1<<32 - 1, 3808858755}, {1 << 32, 3808858755}, {1<<32 + 1, 3808858755}, {1<<32 + 10, 3808858755}, {1 << 40, 3808858755}, {math.MaxInt, 3808858755},
		{0, 0}, {-1, 0}, {-10, 0}, {-1 << 32, 0}, {1 - 1<<32, 0}, {math.MinInt, 0}, {math.MinInt + 1, 0},
	} {
		if got := crc.Slot(b, c.n); got != c.want {
			t.Errorf("Slot(%q, %d) is %d, not %d", b, c.n, got, c.want)
		}
	}
}

func TestP3_2SlotIsTheSumModulo(t *testing.T) {
	for k := range 200 {
		b := mixed(k, 17)
		for _, n := range []int{1, 2, 3, 4, 16, 64, 997, 1 << 31, 1 << 33} {
			want := int(uint64(bitwise(b)) % uint64(n))
			if got := crc.Slot(b, n); got != want {
				t.Errorf("%d bytes, %d slots: %d, not %d", k, n, got, want)
			}
		}
	}
}

func TestP3_2SlotOfNothing(t *testing.T) {
	for _, n := range []int{math.MinInt, -1, 0, 1, 2, 10, math.MaxInt} {
		if crc.Slot(nil, n) != 0 || crc.Slot([]byte{}, n) != 0 {
			t.Errorf("nothing in %d slots: %d", n, crc.Slot(nil, n))
		}
	}
}

func TestP3_3Nothing(t *testing.T) {
	if crc.Sum(nil) != 0 || crc.Sum([]byte{}) != 0 {
		t.Errorf("Sum of nothing: %s, %s", hex(crc.Sum(nil)), hex(crc.Sum([]byte{})))
	}
	for _, sum := range []uint32{0, 1, 0xe3069283, 0x80000000, 0xffffffff} {
		if crc.More(sum, nil) != sum || crc.More(sum, []byte{}) != sum {
			t.Errorf("More(%s, nothing) is %s", hex(sum), hex(crc.More(sum, nil)))
		}
	}
}

func TestP3_3MoreOfZero(t *testing.T) {
	for n := range 100 {
		b := mixed(n, 23)
		if crc.More(0, b) != crc.Sum(b) {
			t.Errorf("%d bytes: More(0, b) is %s, Sum %s", n, hex(crc.More(0, b)), hex(crc.Sum(b)))
		}
	}
}

func TestP3_3OneBitTurned(t *testing.T) {
	for _, n := range []int{1, 2, 3, 4, 5, 9, 64, 500} {
		b := mixed(n, 29)
		was, more := crc.Sum(b), crc.More(77, b)
		for k := range 8 * n {
			b[k/8] ^= 1 << (k % 8)
			if crc.Sum(b) == was || crc.More(77, b) == more {
				t.Errorf("%d bytes: bit %d turns nothing", n, k)
			}
			b[k/8] ^= 1 << (k % 8)
		}
	}
}

func TestP3_3OneBitOfTheSumTurned(t *testing.T) {
	b := []byte("123456789")
	for k := range 32 {
		if crc.More(77^1<<k, b) == crc.More(77, b) {
			t.Errorf("bit %d of the sum turns nothing", k)
		}
	}
}

func TestR6SameEachTime(t *testing.T) {
	b, other := mixed(50, 31), mixed(60, 37)
	sum, more, slot := crc.Sum(b), crc.More(5, b), crc.Slot(b, 64)
	crc.Sum(other)
	crc.More(9, other)
	if crc.Sum(b) != sum || crc.More(5, b) != more || crc.Slot(b, 64) != slot {
		t.Error("what a call answers hangs on those ahead of it")
	}
	short := b[:20:20]
	if crc.Sum(b[:20]) != crc.Sum(short) || crc.Sum(b[:20]) != bitwise(short) {
		t.Error("the room behind a list's end is in the sum")
	}
}

func TestR7BytesStay(t *testing.T) {
	whole := mixed(100, 41)
	was := slices.Clone(whole)
	b := whole[10:60]
	crc.Sum(b)
	crc.More(1, b)
	crc.Slot(b, 10)
	if !bytes.Equal(whole, was) {
		t.Error("the bytes, or the room around them, were changed")
	}
}
