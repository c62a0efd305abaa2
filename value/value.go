// Package value is layer 1: what stands in a table: see shared/doc/01-value.md.
package value

import (
	"cmp"
	"strconv"

	"catchment/api"
)

// Valid tells whether a value may be.
func Valid(v api.Value) bool {
	// A value that its kind's own field makes anew is the same just if all its other fields are zero.
	switch v.Kind {
	case api.Int:
		return v == OfInt(v.N)
	case api.Str:
		return v == OfStr(v.S)
	case api.Bool:
		return v == OfBool(v.N == 1)
	case api.Hist:
		return v == ofBuckets(v.H)
	}
	return false
}

// Compare is the order of all values, be they valid or not.
func Compare(a, b api.Value) int {
	if c := cmp.Compare(a.Kind, b.Kind); c != 0 {
		return c
	}
	if c := cmp.Compare(a.N, b.N); c != 0 {
		return c
	}
	if c := cmp.Compare(a.S, b.S); c != 0 {
		return c
	}
	return compareBuckets(a.H, b.H)
}

func compareBuckets(a, b [8]int) int {
	for k := range a {
		if c := cmp.Compare(a[k], b[k]); c != 0 {
			return c
		}
	}
	return 0
}

// Holds holds two against one another.
func Holds(how int, a, b api.Value) bool {
	if a.Kind != b.Kind {
		return false
	}
	c := Compare(a, b)
	switch how {
	case api.Eq:
		return c == 0
	case api.Ne:
		return c != 0
	case api.Lt:
		return c < 0
	case api.Le:
		return c <= 0
	case api.Gt:
		return c > 0
	case api.Ge:
		return c >= 0
	}
	return false
}

// Add adds two Ints, or two Hists.
func Add(a, b api.Value) (api.Value, api.Errno) {
	if a.Kind != b.Kind || !Valid(a) || !Valid(b) {
		return api.Value{}, api.ErrKind
	}
	switch a.Kind {
	case api.Int:
		return OfInt(a.N + b.N), api.OK
	case api.Hist:
		return ofBuckets(addBuckets(a.H, b.H)), api.OK
	}
	return api.Value{}, api.ErrKind
}

func addBuckets(a, b [8]int) [8]int {
	for k := range a {
		a[k] += b[k]
	}
	return a
}

// Bucket is a histogram of one number.
func Bucket(n int) api.Value {
	var h [8]int
	k := 0
	for edge := 1; k < len(h)-1 && n >= edge; edge *= 10 {
		k++
	}
	h[k] = 1
	return ofBuckets(h)
}

// Text tells a value that is valid.
func Text(v api.Value) string {
	if !Valid(v) {
		return ""
	}
	switch v.Kind {
	case api.Int:
		return strconv.Itoa(v.N)
	case api.Str:
		return quote(v.S)
	case api.Bool:
		return strconv.FormatBool(v.N == 1)
	}
	return bucketsText(v.H)
}

// quote goes byte by byte: a text need not be UTF-8, and none of its bytes may be lost.
func quote(s string) string {
	b := []byte{'"'}
	for i := range len(s) {
		if s[i] == '"' || s[i] == '\\' {
			b = append(b, '\\')
		}
		b = append(b, s[i])
	}
	return string(append(b, '"'))
}

func bucketsText(h [8]int) string {
	b := []byte{'['}
	for k, n := range h {
		if k > 0 {
			b = append(b, ' ')
		}
		b = strconv.AppendInt(b, int64(n), 10)
	}
	return string(append(b, ']'))
}

// OfInt is an Int.
func OfInt(n int) api.Value { return api.Value{Kind: api.Int, N: n} }

// OfStr is a Str: of a text that is too long, as much of it as a Str may have.
func OfStr(s string) api.Value {
	return api.Value{Kind: api.Str, S: s[:min(len(s), api.MaxText)]}
}

// OfBool is a Bool.
func OfBool(b bool) api.Value {
	if b {
		return api.Value{Kind: api.Bool, N: 1}
	}
	return api.Value{Kind: api.Bool}
}

func ofBuckets(h [8]int) api.Value { return api.Value{Kind: api.Hist, H: h} }
