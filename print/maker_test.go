package print_test

import (
	"math/rand"
	"slices"
	"strings"

	"catchment/api"
)

// maker lays the nodes of queries at random, as parse.Parse does: each behind all that it names.
type maker struct {
	r     *rand.Rand
	nodes []api.Node
}

// made is a query; most of them are such as there may be, as long as they are not too deep or too long.
func made(r *rand.Rand, depth int) api.Query {
	m := maker{r: r}
	m.rows(depth)
	return api.Query{N: m.nodes}
}

func (m *maker) lay(n api.Node) int {
	m.nodes = append(m.nodes, n)
	return len(m.nodes) - 1
}

func (m *maker) name() string {
	l := []string{"host", "n", "load", "up", "x_1", "fetch", "from", "to", "or", "and", "has", "count", "by", "true", "where", "group", "a" + strings.Repeat("9", 23)}
	return l[m.r.Intn(len(l))]
}

func (m *maker) names(n int) []string {
	var l []string
	for range n {
		l = append(l, m.name())
	}
	return l
}

func (m *maker) number() int {
	return []int{0, 1, -1, 5, 60, 1<<40 - 1, 1 << 40, -1 << 63, 1<<63 - 1}[m.r.Intn(9)]
}

func (m *maker) text() api.Value {
	l := []string{"", "a", "fetch", "(", ")", ",", " ", "x\"y\\", "\\", "\xff\x00\n", "ä", strings.Repeat("z", 64), strings.Repeat(`"`, 64)}
	return api.Value{Kind: api.Str, S: l[m.r.Intn(len(l))]}
}

func (m *maker) value() api.Value {
	switch m.r.Intn(3) {
	case 0:
		return m.text()
	case 1:
		return api.Value{Kind: api.Bool, N: m.r.Intn(2)}
	}
	return api.Value{Kind: api.Int, N: m.number()}
}

func (m *maker) aggs() []api.Agg {
	var l []api.Agg
	for range 1 + m.r.Intn(3) {
		a := api.Agg{Kind: 1 + m.r.Intn(6)}
		if a.Kind != api.Count {
			a.Col = m.name()
		}
		l = append(l, a)
	}
	return l
}

func (m *maker) rows(depth int) int {
	n := api.Node{Kind: api.QFetch, S: m.name(), To: api.MaxTime - 1}
	if m.r.Intn(3) == 0 {
		n.From = m.number()
	}
	if m.r.Intn(3) == 0 {
		n.To = m.number()
	}
	i := m.lay(n)
	for range m.r.Intn(4) {
		i = m.step(i, depth)
	}
	return i
}

func (m *maker) step(rows, depth int) int {
	kind := api.QWhere + m.r.Intn(7)
	if depth == 0 && kind >= api.QJoin {
		kind = api.QWhere
	}
	n := api.Node{Kind: kind, L: []int{rows}}
	switch kind {
	case api.QWhere:
		n.L = append(n.L, m.cond(depth))
	case api.QKeep:
		n.Names = m.names(1 + m.r.Intn(3))
	case api.QAlign:
		n.N = m.number()
	case api.QGroup:
		n.Names, n.Aggs = m.names(m.r.Intn(4)), m.aggs()
	case api.QTop:
		n.N, n.S = m.number(), m.name()
	default:
		n.L = append(n.L, m.rows(depth-1))
	}
	return m.lay(n)
}

func (m *maker) cond(depth int) int {
	kind := api.PAnd + m.r.Intn(5)
	if depth == 0 {
		kind = api.PCmp + m.r.Intn(2)
	}
	switch kind {
	case api.PAnd, api.POr:
		return m.lay(api.Node{Kind: kind, L: []int{m.cond(depth - 1), m.cond(depth - 1)}})
	case api.PNot:
		return m.lay(api.Node{Kind: kind, L: []int{m.cond(depth - 1)}})
	case api.PHas:
		return m.lay(api.Node{Kind: kind, S: m.name(), V: m.text()})
	}
	return m.lay(api.Node{Kind: kind, S: m.name(), N: 1 + m.r.Intn(6), V: m.value()})
}

// clone shares nothing with its query, so that one can be spoilt without the other.
func clone(q api.Query) api.Query {
	l := slices.Clone(q.N)
	for i := range l {
		l[i].L, l[i].Names, l[i].Aggs = slices.Clone(l[i].L), slices.Clone(l[i].Names), slices.Clone(l[i].Aggs)
	}
	return api.Query{N: l}
}

// spoil changes one thing of a query that has a node at least.
func (m *maker) spoil(q *api.Query) {
	i := m.r.Intn(len(q.N))
	n := &q.N[i]
	switch m.r.Intn(14) {
	case 0:
		n.Kind = m.r.Intn(19) - 1
	case 1:
		n.S = m.oddName()
	case 2:
		n.N = []int{-1, 0, 1, 2, 6, 7, 1 << 62}[m.r.Intn(7)]
	case 3:
		n.From = m.number()
	case 4:
		n.To = m.number()
	case 5:
		n.V = m.oddValue()
	case 6:
		n.L = m.oddList(len(q.N))
	case 7:
		n.Names = m.oddNames(n.Names)
	case 8:
		n.Aggs = m.oddAggs(n.Aggs)
	case 9:
		q.N = slices.Delete(q.N, i, i+1)
	case 10:
		q.N = slices.Insert(q.N, i, q.N[m.r.Intn(len(q.N))])
	case 11:
		k := m.r.Intn(len(q.N))
		q.N[i], q.N[k] = q.N[k], q.N[i]
	case 12:
		if len(n.L) > 0 {
			n.L[m.r.Intn(len(n.L))] += m.r.Intn(5) - 2
		}
	default:
		if len(n.L) == 2 {
			n.L[0], n.L[1] = n.L[1], n.L[0]
		}
	}
}

func (m *maker) oddName() string {
	l := []string{"", "not", "A", "a b", " a", "a ", "5", "(", ")", ",", "|", ":", "=", `"a"`, "_a", "a-b", "ä", "a|keep b", "fetch", strings.Repeat("a", 25), strings.Repeat("a", 3000), m.name()}
	return l[m.r.Intn(len(l))]
}

func (m *maker) oddValue() api.Value {
	h := [8]int{0, 1}
	l := []api.Value{
		{}, {Kind: api.Hist}, {Kind: api.Hist, H: h}, {Kind: 5}, {Kind: -1}, {Kind: api.Int, S: "a"}, {Kind: api.Int, H: h}, {Kind: api.Str, N: 1}, {Kind: api.Str, S: "a", H: h},
		{Kind: api.Bool, N: 2}, {Kind: api.Bool, N: -1}, {Kind: api.Bool, S: "true"}, {Kind: api.Str, S: strings.Repeat("a", 65)}, {Kind: api.Str, S: strings.Repeat("a", 3000)}, {S: "a"}, {N: 5}, m.value(),
	}
	return l[m.r.Intn(len(l))]
}

func (m *maker) oddList(n int) []int {
	var l []int
	for range m.r.Intn(4) {
		l = append(l, []int{m.r.Intn(n), m.r.Intn(n), m.r.Intn(n), -1, n, 1 << 62}[m.r.Intn(6)])
	}
	return l
}

func (m *maker) oddNames(l []string) []string {
	if len(l) > 0 && m.r.Intn(2) == 0 {
		l[m.r.Intn(len(l))] = m.oddName()
		return l
	}
	return [][]string{nil, {}, {"a"}, {"a", "b"}, {""}}[m.r.Intn(5)]
}

func (m *maker) oddAggs(l []api.Agg) []api.Agg {
	if len(l) > 0 && m.r.Intn(2) == 0 {
		a := &l[m.r.Intn(len(l))]
		if m.r.Intn(2) == 0 {
			a.Kind = m.r.Intn(9) - 1
		} else {
			a.Col = m.oddName()
		}
		return l
	}
	return [][]api.Agg{nil, {}, {{Kind: api.Count}}, {{Kind: api.Sum, Col: "a"}}, {{}}}[m.r.Intn(5)]
}
