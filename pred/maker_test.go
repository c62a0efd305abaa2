package pred_test

import (
	"math/rand"
	"slices"

	"catchment/api"
)

// maker makes conditions, columns and rows at random, of few names and values, so that many of them go together; odd ones too, if it is to.
type maker struct {
	r   *rand.Rand
	odd bool
}

func (m maker) oneIn(n int) bool { return m.odd && m.r.Intn(n) == 0 }

func pick[E any](m maker, l ...E) E { return l[m.r.Intn(len(l))] }

func (m maker) name() string { return pick(m, "host", "n", "up", "h", "x") }

func (m maker) kind() int {
	if m.oneIn(8) {
		return pick(m, -1, 0, 5)
	}
	return 1 + m.r.Intn(4)
}

// value is one of a kind that may be; an odd one has something in all of its fields.
func (m maker) value() api.Value {
	v := api.Value{Kind: m.kind()}
	all := m.oneIn(8)
	if all || v.Kind == api.Int || v.Kind == api.Bool {
		v.N = m.r.Intn(2)
	}
	if all || v.Kind == api.Str {
		v.S = pick(m, "", "a", "ab", "ba", "aba", "b")
	}
	if all || v.Kind == api.Hist {
		v.H[m.r.Intn(8)] = m.r.Intn(2)
	}
	return v
}

func (m maker) cols() []api.Col {
	var l []api.Col
	for range m.r.Intn(6) {
		l = append(l, col(m.name(), m.kind()))
	}
	return l
}

// row has a value of each column; an odd one more, or less.
func (m maker) row(cols []api.Col) []api.Value {
	n := len(cols)
	if m.oneIn(6) {
		n = m.r.Intn(n + 3)
	}
	var l []api.Value
	for range n {
		l = append(l, m.value())
	}
	return l
}

func (m maker) table() api.Table {
	t := api.Table{Cols: m.cols()}
	for range m.r.Intn(9) {
		t.Rows = append(t.Rows, m.row(t.Cols))
	}
	return t
}

// query are n nodes; each names any of those ahead of it, so that one may be named by many, or by none.
func (m maker) query(n int) api.Query {
	var q api.Query
	for at := range n {
		q.N = append(q.N, m.node(at))
	}
	return q
}

func (m maker) node(at int) api.Node {
	n := api.Node{Kind: pick(m, api.PCmp, api.PHas, api.PAnd, api.POr, api.PNot)}
	if at == 0 {
		n.Kind = pick(m, api.PCmp, api.PHas)
	}
	if m.oneIn(10) {
		n.Kind = m.r.Intn(18)
	}
	many := map[int]int{api.PNot: 1, api.PAnd: 2, api.POr: 2, api.QWhere: 2, api.QKeep: 1}[n.Kind]
	if m.oneIn(10) {
		many = m.r.Intn(4)
	}
	for range many {
		l := m.r.Intn(max(at, 1))
		if m.oneIn(12) {
			l = pick(m, -1, at, at+1, 1<<40)
		}
		n.L = append(n.L, l)
	}
	n.S, n.N, n.V = m.name(), 1+m.r.Intn(6), m.value()
	if m.oneIn(10) {
		n.N = pick(m, -1, 0, 7)
	}
	if n.Kind == api.PHas && !m.oneIn(4) {
		n.V = strOf(pick(m, "", "a", "b", "ab"))
	}
	return n
}

func cloneQuery(q api.Query) api.Query {
	l := slices.Clone(q.N)
	for i := range l {
		l[i].L, l[i].Names, l[i].Aggs = slices.Clone(l[i].L), slices.Clone(l[i].Names), slices.Clone(l[i].Aggs)
	}
	return api.Query{N: l}
}

func cloneTable(t api.Table) api.Table {
	out := api.Table{Cols: slices.Clone(t.Cols)}
	for _, row := range t.Rows {
		out.Rows = append(out.Rows, slices.Clone(row))
	}
	return out
}
