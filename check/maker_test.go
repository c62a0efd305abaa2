package check_test

import (
	"math"
	"math/rand"
	"slices"
	"strings"

	"catchment/api"
)

// maker lays nodes at random that know the columns of those ahead, so that many of them may be, and many just not.
type maker struct {
	r       *rand.Rand
	schemas []api.Schema
	inputs  [][]api.Col
	nodes   []api.Node
	cols    [][]api.Col
}

// made are some nodes; each names any of those ahead of it that it may name, so that one may be named by many, or by none.
func made(r *rand.Rand, schemas []api.Schema, inputs [][]api.Col, n int) api.Query {
	m := maker{r: r, schemas: schemas, inputs: inputs}
	for range n {
		m.lay(m.node())
	}
	return api.Query{N: m.nodes}
}

func (m *maker) lay(n api.Node) {
	m.nodes = append(m.nodes, n)
	all, _, e := ruleTypes(m.schemas, api.Query{N: m.nodes}, m.inputs)
	if e != api.OK && m.r.Intn(8) > 0 {
		// Most of what may not be is taken back, or hardly a query would get far.
		m.nodes = m.nodes[:len(m.nodes)-1]
		return
	}
	if e != api.OK {
		all = append(m.cols, nil)
	}
	m.cols = all
}

// ahead is a node of rows, or a condition; -1, if there is none.
func (m *maker) ahead(letter byte) int {
	var l []int
	for i, n := range m.nodes {
		if letterOf(n.Kind) == letter {
			l = append(l, i)
		}
	}
	if len(l) == 0 {
		return -1
	}
	// Rather a late one, so that there are long queries too.
	if m.r.Intn(2) == 0 {
		return l[len(l)-1]
	}
	return l[m.r.Intn(len(l))]
}

func (m *maker) node() api.Node {
	kinds := []int{1, 1, 2, 2, 2, 3, 4, 5, 5, 6, 7, 8, 9, 11, 12, 13, 14, 14, 14, 15}
	n := api.Node{Kind: kinds[m.r.Intn(len(kinds))]}
	var rows []api.Col
	for k := range len(shapes[n.Kind]) {
		at := m.ahead(shapes[n.Kind][k])
		n.L = append(n.L, at)
		if k == 0 && at >= 0 {
			rows = m.cols[at]
		}
	}
	if n.Kind > 10 && len(m.cols) > 0 {
		rows = m.cols[m.r.Intn(len(m.cols))]
	}
	m.fill(&n, rows)
	return n
}

func (m *maker) fill(n *api.Node, rows []api.Col) {
	switch n.Kind {
	case api.QFetch:
		n.S = append(slices.Clone(m.schemas), api.Schema{Name: "nowhere"})[m.r.Intn(len(m.schemas)+1)].Name
	case api.QInput:
		n.N = m.r.Intn(len(m.inputs)+2) - 1
	case api.QKeep:
		n.Names = m.names(rows, 1+m.r.Intn(4))
	case api.QAlign:
		n.N = m.r.Intn(4) - 1
	case api.QGroup:
		n.Names, n.Aggs = m.names(rows, m.r.Intn(3)), m.aggs(rows)
	case api.QTop:
		n.N, n.S = []int{0, 1, 1000, 1001}[m.r.Intn(4)], m.col(rows).Name
	case api.PCmp:
		c := m.col(rows)
		n.S, n.N, n.V = c.Name, m.r.Intn(8), m.value(c.Kind)
	case api.PHas:
		c := m.col(rows)
		n.S, n.V = c.Name, m.value(c.Kind)
	}
}

func (m *maker) col(rows []api.Col) api.Col {
	if len(rows) == 0 || m.r.Intn(12) == 0 {
		return api.Col{Name: "nothing", Kind: api.Int}
	}
	return rows[m.r.Intn(len(rows))]
}

// names are mostly such as there are, and now and then one is twice.
func (m *maker) names(rows []api.Col, n int) []string {
	var l []string
	for range n {
		name := m.col(rows).Name
		if !slices.Contains(l, name) || m.r.Intn(4) == 0 {
			l = append(l, name)
		}
	}
	return l
}

func (m *maker) aggs(rows []api.Col) []api.Agg {
	var l []api.Agg
	for range m.r.Intn(5) {
		c := m.col(rows)
		kinds := [][]int{{}, {2, 3, 4, 5}, {3, 4}, {3, 4}, {6}}[max(0, min(c.Kind, 4))]
		a := api.Agg{Kind: m.r.Intn(9) - 1, Col: c.Name}
		if len(kinds) > 0 && m.r.Intn(8) > 0 {
			a.Kind = kinds[m.r.Intn(len(kinds))]
		}
		if m.r.Intn(4) == 0 {
			a = api.Agg{Kind: api.Count}
		}
		l = append(l, a)
	}
	return l
}

// value is mostly one of a kind.
func (m *maker) value(kind int) api.Value {
	if m.r.Intn(10) == 0 {
		kind = m.r.Intn(6)
	}
	v := api.Value{Kind: kind}
	switch kind {
	case api.Int:
		v.N = []int{0, -1, math.MinInt, math.MaxInt}[m.r.Intn(4)]
	case api.Str:
		v.S = []string{"", "x", strings.Repeat("y", 64), strings.Repeat("y", 65)}[m.r.Intn(4)]
	case api.Bool:
		v.N = m.r.Intn(3)
	}
	return v
}

// spoil changes one thing of a query that has a node at least.
func spoil(r *rand.Rand, q api.Query) {
	n := &q.N[r.Intn(len(q.N))]
	odd := []int{-1, 0, 1, 2, 6, 7, 9, 10, 16, 1000, 1001, len(q.N), math.MinInt, math.MaxInt}
	number := odd[r.Intn(len(odd))]
	switch r.Intn(7) {
	case 0:
		n.Kind = r.Intn(18) - 1
	case 1:
		n.N = number
	case 2:
		n.S = []string{"", "time", "host", "no"}[r.Intn(4)]
	case 3:
		n.L = append(n.L, r.Intn(len(q.N)))
	case 4:
		if len(n.L) > 0 {
			n.L[r.Intn(len(n.L))] = number
		}
	case 5:
		if len(n.L) > 0 {
			n.L[r.Intn(len(n.L))] = r.Intn(len(q.N))
		}
	default:
		n.Names = append(n.Names, []string{"", "time", "host"}[r.Intn(3)])
	}
}

func clone(q api.Query) api.Query {
	l := slices.Clone(q.N)
	for i := range l {
		l[i].L, l[i].Names, l[i].Aggs = slices.Clone(l[i].L), slices.Clone(l[i].Names), slices.Clone(l[i].Aggs)
	}
	return api.Query{N: l}
}
