package runs_test

import (
	"math"
	"slices"
	"testing"

	"catchment/api"
	"catchment/runs"
	"catchment/value"
)

func ints(l ...int) []api.Value {
	var vals []api.Value
	for _, n := range l {
		vals = append(vals, value.OfInt(n))
	}
	return vals
}

func text(s string) []api.Value { return []api.Value{value.OfStr(s)} }

func sample(at int, vals []api.Value) api.Sample { return api.Sample{Time: at, Vals: vals} }

func sameSample(a, b api.Sample) bool { return a.Time == b.Time && slices.Equal(a.Vals, b.Vals) }

// byMoment is a list's samples, rising, and of each moment the first one: what a run of them must have.
func byMoment(l []api.Sample) []api.Sample {
	out := slices.Clone(l)
	slices.SortStableFunc(out, func(a, b api.Sample) int {
		if a.Time < b.Time {
			return -1
		} else if a.Time > b.Time {
			return 1
		}
		return 0
	})
	return slices.CompactFunc(out, func(a, b api.Sample) bool { return a.Time == b.Time })
}

// within is what of samples stands between two moments, one by one.
func within(l []api.Sample, from, to int) []api.Sample {
	var out []api.Sample
	for _, s := range l {
		if from <= s.Time && s.Time <= to {
			out = append(out, s)
		}
	}
	return out
}

func wantAdd(t *testing.T, r *runs.Run, at int, vals []api.Value, want bool) {
	t.Helper()
	if got := r.Add(at, vals); got != want {
		t.Errorf("Add(%d, %v) = %v", at, vals, got)
	}
}

func wantGet(t *testing.T, r *runs.Run, at int, want []api.Value) {
	t.Helper()
	if vals, found := r.Get(at); !slices.Equal(vals, want) || !found {
		t.Errorf("Get(%d) = %v, %v; want %v", at, vals, found, want)
	}
}

func wantNone(t *testing.T, r *runs.Run, at int) {
	t.Helper()
	if vals, found := r.Get(at); len(vals) != 0 || found {
		t.Errorf("Get(%d) = %v, %v; want none, and false", at, vals, found)
	}
}

func wantRange(t *testing.T, r *runs.Run, from, to int, want []api.Sample) {
	t.Helper()
	if got := r.Range(from, to); !slices.EqualFunc(got, want, sameSample) {
		t.Errorf("Range(%d, %d) has %d samples, want %d; or others", from, to, len(got), len(want))
	}
}

// wantAll holds a run to have just these samples, which rise, whichever call is asked.
func wantAll(t *testing.T, r *runs.Run, want []api.Sample) {
	t.Helper()
	if r.Len() != len(want) {
		t.Errorf("Len = %d, want %d", r.Len(), len(want))
	}
	first, last, some := r.Span()
	if len(want) == 0 {
		if first != 0 || last != 0 || some {
			t.Errorf("Span = %d, %d, %v; want 0, 0 and false", first, last, some)
		}
	} else if first != want[0].Time || last != want[len(want)-1].Time || !some {
		t.Errorf("Span = %d, %d, %v; want %d, %d", first, last, some, want[0].Time, want[len(want)-1].Time)
	}
	for _, s := range want {
		wantGet(t, r, s.Time, s.Vals)
	}
	wantRange(t, r, math.MinInt, math.MaxInt, want)
}

// filled is a run to which samples were added in their order, each Add held to what came ahead.
func filled(t *testing.T, l []api.Sample) *runs.Run {
	t.Helper()
	r := runs.New()
	there := map[int]int{}
	for _, s := range l {
		there[s.Time]++
		wantAdd(t, r, s.Time, s.Vals, there[s.Time] == 1)
	}
	return r
}

// steps are n samples, gap moments apart from one another, each with its number.
func steps(n, begin, gap int) []api.Sample {
	var l []api.Sample
	for k := range n {
		l = append(l, sample(begin+k*gap, ints(k)))
	}
	return l
}

// mixed are the same samples in an order that is neither rising nor falling, but the same each time.
func mixed(l []api.Sample, x int) []api.Sample {
	out := slices.Clone(l)
	for k := len(out) - 1; k > 0; k-- {
		x = (x*1103515245 + 12345) % (1 << 31)
		other := x >> 8 % (k + 1)
		out[k], out[other] = out[other], out[k]
	}
	return out
}

func reversed(l []api.Sample) []api.Sample {
	out := slices.Clone(l)
	slices.Reverse(out)
	return out
}

// withRoom is a copy with spare room behind its end, and something in that room.
func withRoom(vals []api.Value) []api.Value {
	spare := value.OfStr("spare")
	out := append(slices.Clip(slices.Clone(vals)), spare, spare)
	return out[:len(vals)]
}

func scribble[E any](l []E, with E) {
	for k := range l[:cap(l)] {
		l[:cap(l)][k] = with
	}
}

func TestExamples(t *testing.T) {
	a, b, c := text("a"), text("b"), text("c")
	r := runs.New()
	wantAdd(t, r, 5, a, true)
	wantAdd(t, r, 3, b, true)
	wantAdd(t, r, 5, c, false)
	wantGet(t, r, 5, a)
	if r.Len() != 2 {
		t.Errorf("Len = %d", r.Len())
	}
	wantRange(t, r, 3, 5, []api.Sample{sample(3, b), sample(5, a)})
	wantRange(t, r, 4, 9, []api.Sample{sample(5, a)})
	wantRange(t, r, 9, 3, nil)
	if first, last, some := r.Span(); first != 3 || last != 5 || !some {
		t.Errorf("Span = %d, %d, %v", first, last, some)
	}
}

func TestP7_1NewIsEmpty(t *testing.T) {
	var bare runs.Run
	for _, r := range []*runs.Run{runs.New(), runs.New().Clone(), &bare, bare.Clone()} {
		wantAll(t, r, nil)
		for _, at := range []int{math.MinInt, -1, 0, 1, math.MaxInt} {
			wantNone(t, r, at)
			wantRange(t, r, at, at, nil)
		}
		wantAdd(t, r, 0, ints(1), true)
		wantAll(t, r, []api.Sample{sample(0, ints(1))})
	}
}

func TestP7_1FirstStays(t *testing.T) {
	r := runs.New()
	wantAdd(t, r, 7, ints(1), true)
	for _, vals := range [][]api.Value{ints(1), ints(2), ints(1, 2), nil, {}, text("x"), {{}}} {
		wantAdd(t, r, 7, vals, false)
		wantAll(t, r, []api.Sample{sample(7, ints(1))})
	}
}

// A sample without values is one too, and there stays none but it.
func TestP7_1NoValues(t *testing.T) {
	for _, none := range [][]api.Value{nil, {}} {
		r := runs.New()
		wantAdd(t, r, 0, none, true)
		wantAdd(t, r, 0, ints(1), false)
		wantAll(t, r, []api.Sample{sample(0, nil)})
		wantNone(t, r, 1)
		wantNone(t, r, -1)
	}
}

func TestP7_1AnyMoment(t *testing.T) {
	moments := []int{0, math.MaxInt, math.MinInt, -1, 1, math.MaxInt - 1, math.MinInt + 1, 1 << 32, -1 << 32, api.MaxTime, api.MaxTime - 1, api.MaxTime + 1}
	var l []api.Sample
	for k, at := range moments {
		l = append(l, sample(at, ints(k)))
	}
	r := runs.New()
	for k, s := range l {
		for _, later := range moments[k:] {
			wantNone(t, r, later)
		}
		wantAdd(t, r, s.Time, s.Vals, true)
		wantAdd(t, r, s.Time, ints(99), false)
		wantAll(t, r, byMoment(l[:k+1]))
	}
	for _, at := range []int{2, -2, math.MaxInt - 2, math.MinInt + 2, 1<<32 - 1, 1<<32 + 1, api.MaxTime + 2} {
		wantNone(t, r, at)
	}
}

// The chapter refuses no values: those that no table may have stay as they are.
func TestP7_1AnyValues(t *testing.T) {
	all := []api.Value{
		value.OfInt(math.MinInt), value.OfStr(""), value.OfBool(true), value.Bucket(250), {}, {Kind: 5}, {Kind: -1, N: 3, S: "x", H: [8]int{7: 1}},
		{Kind: api.Bool, N: 2}, {Kind: api.Int, S: "x"}, {Kind: api.Str, S: string(make([]byte, 300))},
	}
	r := runs.New()
	var l []api.Sample
	for k, v := range all {
		l = append(l, sample(k, []api.Value{v}))
		wantAdd(t, r, k, []api.Value{v}, true)
	}
	l = append(l, sample(len(all), all), sample(len(all)+1, ints(make([]int, 1000)...)))
	wantAdd(t, r, len(all), all, true)
	wantAdd(t, r, len(all)+1, ints(make([]int, 1000)...), true)
	wantAll(t, r, l)
}

func TestP7_1Span(t *testing.T) {
	r := runs.New()
	for _, x := range []struct{ at, first, last int }{
		{0, 0, 0}, {0, 0, 0}, {4, 0, 4}, {2, 0, 4}, {-3, -3, 4}, {5, -3, 5}, {math.MaxInt, -3, math.MaxInt}, {math.MinInt, math.MinInt, math.MaxInt}, {9, math.MinInt, math.MaxInt},
	} {
		r.Add(x.at, nil)
		if first, last, some := r.Span(); first != x.first || last != x.last || !some {
			t.Errorf("Span = %d, %d, %v; want %d, %d", first, last, some, x.first, x.last)
		}
	}
}

// Asking changes nothing.
func TestP7_1AskingAddsNothing(t *testing.T) {
	l := []api.Sample{sample(2, ints(2)), sample(4, ints(4))}
	r := filled(t, l)
	for range 3 {
		for at := range 7 {
			r.Get(at)
			r.Range(at, 9-at)
		}
		r.Clone().Add(3, nil)
		wantAll(t, r, l)
	}
	wantAdd(t, r, 3, ints(3), true)
}

func TestP7_2RangeEnds(t *testing.T) {
	l := []api.Sample{
		sample(math.MinInt, ints(0)), sample(math.MinInt+1, ints(1)), sample(-7, ints(2)), sample(-1, ints(3)), sample(0, ints(4)), sample(1, ints(5)),
		sample(9, ints(6)), sample(math.MaxInt-1, ints(7)), sample(math.MaxInt, ints(8)),
	}
	r := filled(t, mixed(l, 3))
	ends := []int{math.MinInt, math.MinInt + 1, math.MinInt + 2, -8, -7, -6, -2, -1, 0, 1, 2, 8, 9, 10, math.MaxInt - 2, math.MaxInt - 1, math.MaxInt}
	for _, from := range ends {
		for _, to := range ends {
			wantRange(t, r, from, to, within(l, from, to))
		}
	}
}

func TestP7_2RangeOfNone(t *testing.T) {
	r := filled(t, steps(5, 10, 10))
	for _, x := range [][2]int{{0, 9}, {51, 99}, {11, 19}, {50, 10}, {20, 19}, {math.MaxInt, math.MinInt}, {math.MinInt, 9}, {51, math.MaxInt}} {
		wantRange(t, r, x[0], x[1], nil)
	}
}

// Long runs, and ranges that begin and end anywhere in them.
func TestP7_2RangeOfMany(t *testing.T) {
	l := steps(3000, -4500, 3)
	for _, r := range []*runs.Run{filled(t, l), filled(t, reversed(l)), filled(t, mixed(l, 1))} {
		wantAll(t, r, l)
		for from := -4510; from < 4510; from += 61 {
			wantRange(t, r, from, from, within(l, from, from))
			wantRange(t, r, from, from+2, within(l, from, from+2))
			for to := from; to < 4510; to += 911 {
				wantRange(t, r, from, to, within(l, from, to))
				wantRange(t, r, to, from, within(l, to, from))
			}
			if from%3 != 0 {
				wantNone(t, r, from)
			}
		}
	}
}

func TestP7_2CloneIsTheSame(t *testing.T) {
	for _, n := range []int{0, 1, 2, 100, 256, 257, 258, 700} {
		l := steps(n, -50, 7)
		c := filled(t, l).Clone().Clone()
		wantAll(t, c, l)
		for _, s := range l {
			wantAdd(t, c, s.Time, text("late"), false)
		}
		wantAll(t, c, l)
	}
}

func TestP7_2ClonesGoTheirWay(t *testing.T) {
	for _, n := range []int{0, 1, 2, 3, 5, 128, 255, 256, 257, 400, 600} {
		both := steps(n, 0, 4)
		r := filled(t, both)
		c := r.Clone()
		inR, inC := slices.Clip(both), slices.Clip(both)
		for k := -1; k <= n; k++ {
			inR, inC = append(inR, sample(4*k+1, text("r"))), append(inC, sample(4*k+2, text("c")))
			wantAdd(t, r, 4*k+1, text("r"), true)
			wantAdd(t, c, 4*k+2, text("c"), true)
		}
		inR, inC = append(inR, sample(-100, text("r"))), append(inC, sample(-100, text("c")))
		wantAdd(t, r, -100, text("r"), true)
		wantNone(t, c, -100)
		wantAdd(t, c, -100, text("c"), true)
		wantAll(t, r, byMoment(inR))
		wantAll(t, c, byMoment(inC))
	}
}

func TestP7_3AnyOrder(t *testing.T) {
	l := []api.Sample{sample(-2, ints(1)), sample(0, nil), sample(1, text("x")), sample(4, ints(4, 5)), sample(math.MaxInt, ints(6))}
	places := []int{0, 1, 2, 3, 4}
	var permute func(k int)
	permute = func(k int) {
		if k == len(places) {
			r := runs.New()
			for _, p := range places {
				wantAdd(t, r, l[p].Time, l[p].Vals, true)
			}
			wantAll(t, r, l)
			return
		}
		for other := k; other < len(places); other++ {
			places[k], places[other] = places[other], places[k]
			permute(k + 1)
			places[k], places[other] = places[other], places[k]
		}
	}
	permute(0)
}

func TestP7_3AnyOrderOfMany(t *testing.T) {
	for _, n := range []int{255, 256, 257, 511, 512, 513, 514, 2000} {
		l := steps(n, -n, 3)
		for _, order := range [][]api.Sample{l, reversed(l), mixed(l, 1), mixed(l, 2), slices.Concat(l[n/2:], l[:n/2]), slices.Concat(reversed(l[n/3:]), l[:n/3])} {
			wantAll(t, filled(t, order), l)
		}
	}
}

// Of those of one moment the first one stays, whatever stands between them.
func TestP7_3FirstOfAMoment(t *testing.T) {
	x := 1
	for range 20 {
		var l []api.Sample
		for k := range 1500 {
			x = (x*1103515245 + 12345) % (1 << 31)
			l = append(l, sample(x>>8%900-450, ints(k)))
		}
		want := byMoment(l)
		if len(want) == len(l) {
			t.Error("no moment twice")
		}
		wantAll(t, filled(t, l), want)
	}
}

func TestHandedInStays(t *testing.T) {
	r := runs.New()
	vals := withRoom(append(ints(1), text("x")...))
	before := slices.Clone(vals[:cap(vals)])
	for range 2 {
		r.Add(1, vals)
		r.Add(2, vals[:1])
		r.Add(3, vals[:0])
		r.Clone().Add(4, vals)
	}
	if !slices.Equal(vals[:cap(vals)], before) {
		t.Errorf("values that were handed in are now %v", vals[:cap(vals)])
	}
	scribble(vals, value.OfInt(99))
	wantAll(t, r, []api.Sample{sample(1, before[:2]), sample(2, before[:1]), sample(3, nil)})
}

func TestAnsweredIsOwn(t *testing.T) {
	l := []api.Sample{sample(1, ints(1, 2)), sample(2, text("x")), sample(3, nil), sample(4, ints(3))}
	r := filled(t, l)
	c := r.Clone()
	for range 2 {
		for _, run := range []*runs.Run{r, c} {
			vals, _ := run.Get(1)
			scribble(vals, value.OfStr("scribble"))
			got := run.Range(1, 4)
			for _, s := range got {
				scribble(s.Vals, value.OfStr("scribble"))
			}
			scribble(got, sample(9, text("scribble")))
		}
		wantAll(t, r, l)
		wantAll(t, c, l)
	}
	vals, _ := r.Get(1)
	got := r.Range(1, 4)
	for _, s := range r.Range(1, 4) {
		scribble(s.Vals, value.OfInt(77))
	}
	scribble(got[0].Vals, value.OfInt(77))
	if !slices.Equal(vals, ints(1, 2)) || !slices.EqualFunc(got[1:], l[1:], sameSample) {
		t.Errorf("%v, %v, once other answers were written over", vals, got)
	}
}
