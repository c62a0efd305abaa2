package rowops_test

import (
	"math"
	"math/rand"
	"slices"

	"catchment/api"
)

// maker makes tables, arguments and conditions at random, of few names and values, so that many rows are the same, or differ in little; odd tables too, if it is to.
type maker struct {
	r   *rand.Rand
	odd bool
}

func makerOf(seed int, odd bool) maker {
	return maker{rand.New(rand.NewSource(int64(seed))), odd}
}

func (m maker) oneIn(n int) bool { return m.r.Intn(n) == 0 }

func pick[E any](m maker, l ...E) E { return l[m.r.Intn(len(l))] }

func (m maker) name() string { return pick(m, "time", "n", "host", "up", "h", "none") }

func (m maker) width() int {
	return pick(m, 1, 2, 3, 5, 10, 10, 60, 1<<40, math.MaxInt-1, math.MaxInt, 0, -1, -10, math.MinInt)
}

func (m maker) many() int {
	return pick(m, 1, 1, 2, 3, 4, 5, 8, 999, 1000, 1001, 0, -1, math.MinInt, math.MaxInt)
}

// cols are some of five, in any order; time and n may have changed kinds.
func (m maker) cols() []api.Col {
	all := []api.Col{col("time", api.Int), col("n", api.Int), col("host", api.Str), col("up", api.Bool), col("h", api.Hist)}
	if m.oneIn(5) {
		all[0].Kind, all[1].Kind = pick(m, 2, 3, 4), pick(m, 1, 2, 3, 4)
	}
	m.r.Shuffle(len(all), func(a, b int) { all[a], all[b] = all[b], all[a] })
	cols := all[:1+m.r.Intn(len(all))]
	if m.odd && m.oneIn(4) {
		cols = append(cols, pick(m, cols[0], col("", 1), col("x", 0), col("x", 5), col("X", 1)))
	}
	return slices.Clone(cols)
}

func (m maker) value(kind int) api.Value {
	v := api.Value{Kind: kind}
	switch kind {
	case api.Int:
		v.N = m.r.Intn(40) - 15
		if m.oneIn(8) {
			v.N = pick(m, math.MinInt, math.MinInt+1, math.MinInt+7, math.MaxInt, math.MaxInt-6, 1<<40)
		}
	case api.Str:
		v.S = pick(m, "", "a", "ab", "b", "\xff")
	case api.Bool:
		v.N = m.r.Intn(2)
	case api.Hist:
		v.H[m.r.Intn(8)] = m.r.Intn(3) - 1
	}
	return v
}

func (m maker) row(cols []api.Col) []api.Value {
	var l []api.Value
	for _, c := range cols {
		l = append(l, m.value(c.Kind))
	}
	if m.odd && m.oneIn(12) {
		at := m.r.Intn(len(l))
		l[at] = pick(m, api.Value{}, api.Value{Kind: l[at].Kind, N: 2, S: "x"}, m.value(1+l[at].Kind%4))
	}
	if m.odd && m.oneIn(20) {
		return l[1:]
	}
	return l
}

func (m maker) table() api.Table {
	t := api.Table{Cols: m.cols()}
	for range m.r.Intn(12) {
		t.Rows = append(t.Rows, m.row(t.Cols))
		for m.oneIn(3) {
			t.Rows = append(t.Rows, slices.Clone(pick(m, t.Rows...)))
		}
	}
	m.r.Shuffle(len(t.Rows), func(a, b int) { t.Rows[a], t.Rows[b] = t.Rows[b], t.Rows[a] })
	return t
}

// query are conditions, each of those ahead; now and then one is none.
func (m maker) query() api.Query {
	var q api.Query
	for at := range 8 {
		n := cmp(m.name(), 1+m.r.Intn(6), m.value(1+m.r.Intn(4)))
		switch kind := m.r.Intn(8); {
		case kind == 0:
			n = has(m.name(), pick(m, "", "a", "b"))
		case kind == 1 && at > 0:
			n = api.Node{Kind: api.PNot, L: []int{m.r.Intn(at)}}
		case kind < 4 && at > 0:
			n = api.Node{Kind: pick(m, api.PAnd, api.POr), L: []int{m.r.Intn(at), m.r.Intn(at)}}
		case kind == 4 && m.oneIn(4):
			n = api.Node{Kind: pick(m, 0, api.QFetch, api.QWhere, 99)}
		}
		q.N = append(q.N, n)
	}
	return q
}

// parts lays each row of a table into one of some tables.
func (m maker) parts(t api.Table) []api.Table {
	out := make([]api.Table, 1+m.r.Intn(4))
	for k := range out {
		out[k].Cols = t.Cols
	}
	for _, row := range t.Rows {
		k := m.r.Intn(len(out))
		out[k].Rows = append(out[k].Rows, row)
	}
	return out
}

func cloneTable(t api.Table) api.Table {
	out := api.Table{Cols: slices.Clone(t.Cols)}
	for _, row := range t.Rows {
		out.Rows = append(out.Rows, slices.Clone(row))
	}
	return out
}

func cloneQuery(q api.Query) api.Query {
	l := slices.Clone(q.N)
	for i := range l {
		l[i].L, l[i].Names, l[i].Aggs = slices.Clone(l[i].L), slices.Clone(l[i].Names), slices.Clone(l[i].Aggs)
	}
	return api.Query{N: l}
}
