package group_test

import (
	"math"
	"math/rand"
	"slices"

	"catchment/api"
	"catchment/group"
)

// maker makes tables, names and aggregates at random, of few names and values, so that many rows are of one group; odd ones too, if it is to.
type maker struct {
	r   *rand.Rand
	odd bool
}

func makerOf(seed int, odd bool) maker {
	return maker{rand.New(rand.NewSource(int64(seed))), odd}
}

func (m maker) oneIn(n int) bool { return m.r.Intn(n) == 0 }

func pick[E any](m maker, l ...E) E { return l[m.r.Intn(len(l))] }

// cols are some of six, in any order; now and then one has another kind.
func (m maker) cols() []api.Col {
	all := []api.Col{col("k", api.Int), col("n", api.Int), col("host", api.Str), col("up", api.Bool), col("h", api.Hist), col("p#0", api.Int)}
	m.r.Shuffle(len(all), func(a, b int) { all[a], all[b] = all[b], all[a] })
	cols := all[:1+m.r.Intn(5)]
	if m.oneIn(6) {
		cols[m.r.Intn(len(cols))].Kind = pick(m, 1, 2, 3, 4)
	}
	if m.odd && m.oneIn(8) {
		cols = append(cols, pick(m, cols[0], col("", 1), col("x", 0), col("x", 5), col("X", 1)))
	}
	return slices.Clone(cols)
}

// names are of columns that may be, in any order.
func (m maker) names(cols []api.Col) []string {
	var l []string
	for _, at := range m.r.Perm(len(cols)) {
		if cols[at].Kind != api.Hist && m.oneIn(3) {
			l = append(l, cols[at].Name)
		}
	}
	if m.odd && m.oneIn(8) {
		l = append(l, pick(m, "x", "", cols[0].Name, "h"))
	}
	return l
}

// aggs are of columns that may be.
func (m maker) aggs(cols []api.Col) []api.Agg {
	var l []api.Agg
	for range 1 + m.r.Intn(4) {
		c := pick(m, cols...)
		a := api.Agg{Kind: api.Count}
		switch c.Kind {
		case api.Int:
			a = api.Agg{Kind: pick(m, api.Sum, api.Least, api.Most, api.Mean, api.Mean), Col: c.Name}
		case api.Hist:
			a = api.Agg{Kind: api.Merge, Col: c.Name}
		case api.Str, api.Bool:
			if !m.oneIn(4) {
				a = api.Agg{Kind: pick(m, api.Least, api.Most), Col: c.Name}
			}
		}
		if !slices.Contains(l, a) {
			l = append(l, a)
		}
	}
	if m.odd && m.oneIn(8) {
		l[m.r.Intn(len(l))] = pick(m, l[0], api.Agg{Kind: m.r.Intn(9) - 1, Col: pick(m, cols...).Name}, api.Agg{Kind: m.r.Intn(9) - 1, Col: pick(m, "", "x")})
	}
	if m.odd && m.oneIn(30) {
		return nil
	}
	return l
}

func (m maker) value(kind int) api.Value {
	v := api.Value{Kind: kind}
	switch kind {
	case api.Int:
		v.N = m.r.Intn(4) - 1
		if m.oneIn(10) {
			v.N = pick(m, math.MinInt, math.MaxInt, 256, 1<<32, -7)
		}
	case api.Str:
		v.S = pick(m, "", "a", "ab", "\"", "\\\" \"")
	case api.Bool:
		v.N = m.r.Intn(2)
	case api.Hist:
		v.H[m.r.Intn(8)] = m.r.Intn(5) - 2
		v.H[m.r.Intn(8)] = pick(m, 1, 2, math.MaxInt)
	}
	return v
}

func (m maker) row(cols []api.Col) []api.Value {
	var l []api.Value
	for _, c := range cols {
		l = append(l, m.value(c.Kind))
	}
	if m.odd && m.oneIn(40) {
		at := m.r.Intn(len(l))
		l[at] = pick(m, api.Value{}, api.Value{Kind: l[at].Kind, N: 2, S: "x"}, m.value(1+l[at].Kind%4))
	}
	if m.odd && m.oneIn(60) {
		return l[1:]
	}
	return l
}

func (m maker) tableOf(cols []api.Col) api.Table {
	t := api.Table{Cols: cols}
	for range m.r.Intn(10) {
		t.Rows = append(t.Rows, m.row(t.Cols))
		if m.oneIn(5) {
			t.Rows = append(t.Rows, slices.Clone(pick(m, t.Rows...)))
		}
	}
	m.r.Shuffle(len(t.Rows), func(a, b int) { t.Rows[a], t.Rows[b] = t.Rows[b], t.Rows[a] })
	return t
}

// grouping is a table, and how it is to be grouped.
type grouping struct {
	t     api.Table
	names []string
	aggs  []api.Agg
}

func (m maker) grouping() grouping {
	cols := m.cols()
	return grouping{m.tableOf(cols), m.names(cols), m.aggs(cols)}
}

// parts is a table of parts, of any values, and how it was grouped; now and then what is asked of it is something else.
func (m maker) parts() grouping {
	for {
		cols := m.cols()
		g := grouping{names: m.names(cols), aggs: m.aggs(cols)}
		parts, _, ok := group.Cols(cols, g.names, g.aggs)
		if !ok {
			continue
		}
		if m.odd && m.oneIn(4) {
			at := m.r.Intn(len(parts))
			parts[at] = pick(m, col(parts[at].Name, pick(m, 1, 2, 3, 4)), col("p#"+pick(m, "0", "1", "0#n"), parts[at].Kind), pick(m, parts...))
		}
		if m.odd && m.oneIn(10) {
			parts = pick(m, parts[1:], append(parts, col("z", 1)))
		}
		if m.odd && m.oneIn(4) {
			other := m.cols()
			g.names, g.aggs = pick(m, g.names, m.names(other)), pick(m, g.aggs, m.aggs(other), slices.Concat(g.aggs, m.aggs(cols)))
		}
		if len(parts) > 0 {
			g.t = m.tableOf(parts)
			return g
		}
	}
}

// pieces lays each row of a table into one of some.
func (m maker) pieces(t api.Table) []api.Table {
	l := make([]api.Table, 1+m.r.Intn(5))
	for k := range l {
		l[k] = of(t.Cols)
	}
	for _, row := range t.Rows {
		at := m.r.Intn(len(l))
		l[at].Rows = append(l[at].Rows, row)
	}
	return l
}

func cloneTable(t api.Table) api.Table {
	out := api.Table{Cols: slices.Clone(t.Cols)}
	for _, row := range t.Rows {
		out.Rows = append(out.Rows, slices.Clone(row))
	}
	return out
}
