package eval_test

import (
	"math"
	"math/rand"
	"slices"

	"catchment/api"
	"catchment/check"
	"catchment/schema"
)

// maker makes all that Run is given at random, of few names and values, so that many rows go together; odd things too, if it is to.
type maker struct {
	r       *rand.Rand
	odd     bool
	schemas []api.Schema
	inputs  []api.Table
	nodes   []api.Node
	cols    [][]api.Col // of the nodes
}

func makerOf(seed int, odd bool) *maker {
	m := &maker{r: rand.New(rand.NewSource(int64(seed))), odd: odd}
	m.schemas = m.someSchemas()
	for range m.r.Intn(3) {
		m.inputs = append(m.inputs, m.tableOf(m.inputCols()))
	}
	for range 2 + m.r.Intn(18) {
		m.lay(m.node())
	}
	// Most queries end in rows.
	for len(m.nodes) > 0 && m.nodes[len(m.nodes)-1].Kind > 10 && !(m.odd && m.oneIn(20)) {
		m.nodes = m.nodes[:len(m.nodes)-1]
	}
	return m
}

func (m *maker) oneIn(n int) bool { return m.r.Intn(n) == 0 }

func pick[E any](m *maker, l ...E) E { return l[m.r.Intn(len(l))] }

func (m *maker) query() api.Query { return api.Query{N: m.nodes} }

func (m *maker) most() int {
	return pick(m, 0, 1, 2, 3, 5, 9, 20, 50, 200, 200, 200, 200, 200, 200, -1, math.MinInt)
}

func (m *maker) someSchemas() []api.Schema {
	l := []api.Schema{
		{Name: "load", Keys: colsOf("host:2"), Vals: colsOf("n:1 up:3")}, {Name: "lat", Keys: colsOf("host:2"), Vals: colsOf("h:4")},
		{Name: "alike", Keys: colsOf("host:2"), Vals: colsOf("n:1 up:3")}, {Name: "size", Keys: colsOf("n:1 disk:2"), Vals: colsOf("m:1")},
	}
	m.r.Shuffle(len(l), func(a, b int) { l[a], l[b] = l[b], l[a] })
	l = l[:1+m.r.Intn(len(l))]
	if m.odd && m.oneIn(10) {
		l = append(l, pick(m, api.Schema{Name: "load"}, api.Schema{}, api.Schema{Name: "lat", Keys: colsOf("time:1"), Vals: colsOf("n:1")}))
		m.r.Shuffle(len(l), func(a, b int) { l[a], l[b] = l[b], l[a] })
	}
	return l
}

// inputCols are at times so many that a group of them has more parts than may be.
func (m *maker) inputCols() []api.Col {
	if m.oneIn(6) {
		return numbered(9 + m.r.Intn(8))
	}
	cols := colsOf("host:2 n:1 up:3 time:1 p#0:1 h:4")
	m.r.Shuffle(len(cols), func(a, b int) { cols[a], cols[b] = cols[b], cols[a] })
	return cols[:1+m.r.Intn(len(cols))]
}

// db spreads some rows of each schema over some tables.
func (m *maker) db() []api.Named {
	var l []api.Named
	for _, s := range m.schemas {
		for range m.r.Intn(4) {
			l = append(l, api.Named{Name: s.Name, T: m.tableOf(schema.Cols(s))})
		}
	}
	m.r.Shuffle(len(l), func(a, b int) { l[a], l[b] = l[b], l[a] })
	if m.odd && m.oneIn(8) && len(l) > 0 {
		n := &l[m.r.Intn(len(l))]
		if m.oneIn(2) {
			n.Name = pick(m, "", "x", "load", "alike")
		} else {
			n.T.Cols = pick(m, nil, n.T.Cols[1:], append(n.T.Cols, col("z", 1)), colsOf(latCols))
		}
	}
	return l
}

func (m *maker) value(kind int) api.Value {
	v := api.Value{Kind: kind}
	switch kind {
	case api.Int:
		v.N = m.r.Intn(5) - 1
		if m.oneIn(10) {
			v.N = pick(m, math.MinInt, math.MaxInt, 12, 25)
		}
	case api.Str:
		v.S = pick(m, "a", "b", "ab", "")
	case api.Bool:
		v.N = m.r.Intn(2)
	case api.Hist:
		v.H[m.r.Intn(8)] = m.r.Intn(3)
	}
	return v
}

func (m *maker) tableOf(cols []api.Col) api.Table {
	t := api.Table{Cols: cols}
	for range m.r.Intn(7) {
		var row []api.Value
		for _, c := range cols {
			row = append(row, m.value(c.Kind))
		}
		if m.odd && m.oneIn(150) {
			row[0] = pick(m, api.Value{}, m.value(1+row[0].Kind%4))
		}
		if m.odd && m.oneIn(200) {
			row = row[1:]
		}
		t.Rows = append(t.Rows, row)
	}
	return t
}

// lay takes most of what may not be back, or hardly a query would get far.
func (m *maker) lay(n api.Node) {
	m.nodes = append(m.nodes, n)
	var inputs [][]api.Col
	for _, t := range m.inputs {
		inputs = append(inputs, t.Cols)
	}
	all, _, e := check.Types(m.schemas, m.query(), inputs)
	if e == api.OK {
		m.cols = all
	} else if m.odd && m.oneIn(12) {
		m.cols = append(m.cols, nil)
	} else {
		m.nodes = m.nodes[:len(m.nodes)-1]
	}
}

// ahead is a node of rows, or a condition, rather a late one; 0, if there is none.
func (m *maker) ahead(conds bool) int {
	var l []int
	for i, n := range m.nodes {
		if (n.Kind > 10) == conds {
			l = append(l, i)
		}
	}
	if len(l) == 0 {
		return 0
	}
	return pick(m, l[len(l)-1], pick(m, l...))
}

func (m *maker) node() api.Node {
	n := api.Node{Kind: pick(m, 1, 1, 1, 2, 2, 2, 2, 3, 4, 5, 5, 6, 7, 7, 8, 8, 9, 9, 11, 12, 13, 14, 14, 14, 15)}
	switch n.Kind {
	case api.PAnd, api.POr:
		n.L = []int{m.ahead(true), m.ahead(true)}
		return n
	case api.PNot:
		n.L = []int{m.ahead(true)}
		return n
	case api.QFetch:
		n.S, n.From, n.To = pick(m, pick(m, m.schemas...).Name, pick(m, m.schemas...).Name, "load", "x"), pick(m, 0, 0, 1, 2, math.MinInt), pick(m, 1, 2, api.MaxTime-1, math.MaxInt)
		return n
	case api.QInput:
		n.N = m.r.Intn(3)
		return n
	case api.QWhere:
		n.L = []int{m.ahead(false), m.ahead(true)}
		return n
	case api.QJoin, api.QUnion:
		n.L = []int{m.ahead(false), m.ahead(false)}
		return n
	}
	if len(m.nodes) > 0 {
		m.fill(&n)
	}
	return n
}

// fill is for a node that goes by the columns of another one, which it names unless it is a condition.
func (m *maker) fill(n *api.Node) {
	at := m.ahead(false)
	cols := m.cols[at]
	if len(cols) == 0 {
		return
	}
	if n.Kind < 10 {
		n.L = []int{at}
	}
	c := pick(m, cols...)
	switch n.Kind {
	case api.QKeep:
		n.Names = m.names(cols, true)
	case api.QAlign:
		n.N = pick(m, 1, 2, 10)
	case api.QGroup:
		n.Names, n.Aggs = m.names(cols, false), m.aggs(cols)
	case api.QTop:
		n.N, n.S = pick(m, 1, 2, 4, 1000), c.Name
	case api.PCmp:
		n.S, n.N, n.V = c.Name, 1+m.r.Intn(6), m.value(c.Kind)
	case api.PHas:
		n.S, n.V = c.Name, m.value(api.Str)
	}
}

// names are some of the columns, in any order; of a Hist only if it is to.
func (m *maker) names(cols []api.Col, hist bool) []string {
	var l []string
	for _, at := range m.r.Perm(len(cols)) {
		if m.oneIn(2) && (hist || cols[at].Kind != api.Hist) {
			l = append(l, cols[at].Name)
		}
	}
	return l
}

// aggs are now and then a mean of each column, where these are many.
func (m *maker) aggs(cols []api.Col) []api.Agg {
	if len(cols) > 8 && m.oneIn(2) {
		return means(cols)
	}
	var l []api.Agg
	for range 1 + m.r.Intn(3) {
		c := pick(m, cols...)
		a := api.Agg{Kind: api.Count}
		switch c.Kind {
		case api.Int:
			a = api.Agg{Kind: 2 + m.r.Intn(4), Col: c.Name}
		case api.Hist:
			a = api.Agg{Kind: api.Merge, Col: c.Name}
		}
		if !slices.Contains(l, a) {
			l = append(l, a)
		}
	}
	return l
}

func cloneTable(t api.Table) api.Table {
	out := api.Table{Cols: slices.Clone(t.Cols)}
	for _, row := range t.Rows {
		out.Rows = append(out.Rows, slices.Clone(row))
	}
	return out
}
