package join_test

import (
	"math"
	"math/rand"
	"slices"

	"catchment/api"
)

// maker makes columns, tables and budgets at random, of few names and values, so that much is shared and many rows go together; odd ones too, if it is to.
type maker struct {
	r   *rand.Rand
	odd bool
}

func makerOf(seed int, odd bool) maker {
	return maker{rand.New(rand.NewSource(int64(seed))), odd}
}

func (m maker) oneIn(n int) bool { return m.r.Intn(n) == 0 }

func pick[E any](m maker, l ...E) E { return l[m.r.Intn(len(l))] }

func (m maker) most() int {
	return pick(m, 0, 1, 2, 3, 5, 9, 20, 50, 4096, 4096, 4096, math.MaxInt, math.MaxInt, -1, math.MinInt)
}

// cols are some of seven, in any order; now and then one has another kind.
func (m maker) cols() []api.Col {
	all := []api.Col{
		col("time", api.Int), col("k", api.Int), col("host", api.Str), col("zone", api.Str), col("up", api.Bool), col("n", api.Int),
		col("h", api.Hist),
	}
	most := len(all)
	if !m.oneIn(4) {
		most--
	}
	all = all[:most]
	m.r.Shuffle(len(all), func(a, b int) { all[a], all[b] = all[b], all[a] })
	cols := all[:1+m.r.Intn(4)]
	if m.oneIn(6) {
		at := m.r.Intn(len(cols))
		cols[at].Kind = pick(m, 1, 2, 3, 4)
	}
	if m.odd && m.oneIn(5) {
		cols = append(cols, pick(m, cols[0], col(cols[0].Name, api.Str), col("", 1), col("x", 0), col("x", 5), col("X", 1)))
	}
	return slices.Clone(cols)
}

// anyCols are such that need be no table's: up to 20, of any names and kinds.
func (m maker) anyCols() []api.Col {
	var cols []api.Col
	for range m.r.Intn(pick(m, 3, 6, 12, 20)) {
		name := pick(m, "", "k", "N", "a#") + pick(m, "", "a", "b", "c", "d", "e", "f", "g")
		cols = append(cols, col(name, pick(m, 1, 1, 1, 1, 1, 1, 1, 1, 1, 2, 4, 0)))
	}
	return cols
}

func (m maker) value(kind int) api.Value {
	v := api.Value{Kind: kind}
	switch kind {
	case api.Int:
		v.N = m.r.Intn(3) - 1
		if m.oneIn(10) {
			v.N = pick(m, math.MinInt, math.MaxInt, 256, 1<<32)
		}
	case api.Str:
		v.S = pick(m, "", "a", "ab", "b", "\x00", "\x01a")
	case api.Bool:
		v.N = m.r.Intn(2)
	case api.Hist:
		v.H[m.r.Intn(8)] = m.r.Intn(3) - 1
	}
	return v
}

func (m maker) row(cols []api.Col) []api.Value {
	var l []api.Value
	for _, c := range cols {
		l = append(l, m.value(c.Kind))
	}
	if m.odd && m.oneIn(20) {
		at := m.r.Intn(len(l))
		l[at] = pick(m, api.Value{}, api.Value{Kind: l[at].Kind, N: 2, S: "x"}, m.value(1+l[at].Kind%4))
	}
	if m.odd && m.oneIn(30) {
		return l[1:]
	}
	return l
}

func (m maker) tableOf(cols []api.Col) api.Table {
	t := api.Table{Cols: cols}
	for range m.r.Intn(8) {
		t.Rows = append(t.Rows, m.row(t.Cols))
		for m.oneIn(4) {
			t.Rows = append(t.Rows, slices.Clone(pick(m, t.Rows...)))
		}
	}
	m.r.Shuffle(len(t.Rows), func(a, b int) { t.Rows[a], t.Rows[b] = t.Rows[b], t.Rows[a] })
	return t
}

func (m maker) table() api.Table { return m.tableOf(m.cols()) }

// parts lays each row of a table into one of two.
func (m maker) parts(t api.Table) (api.Table, api.Table) {
	one, other := of(t.Cols), of(t.Cols)
	for _, row := range t.Rows {
		if m.oneIn(2) {
			one.Rows = append(one.Rows, row)
		} else {
			other.Rows = append(other.Rows, row)
		}
	}
	return one, other
}

func cloneTable(t api.Table) api.Table {
	out := api.Table{Cols: slices.Clone(t.Cols)}
	for _, row := range t.Rows {
		out.Rows = append(out.Rows, slices.Clone(row))
	}
	return out
}
