package parse_test

import (
	"math/rand"
	"strings"

	"catchment/api"
)

// maker makes queries at random: their tokens, and beside them the nodes that these are.
type maker struct {
	r      *rand.Rand
	tokens []api.Token
	nodes  []api.Node
}

func (m *maker) put(l ...api.Token) { m.tokens = append(m.tokens, l...) }

// say lays words and signs of the language; now and then one of the other kind of the two.
func (m *maker) say(words string) {
	for _, s := range strings.Fields(words) {
		t := word(s)
		if strings.Contains("|,():=!=<=>=", s) {
			t = sign(s)
		}
		if m.r.Intn(10) == 0 {
			t.Kind = api.TokWord + api.TokSign - t.Kind
		}
		m.put(t)
	}
}

func (m *maker) lay(n api.Node) int {
	m.nodes = append(m.nodes, n)
	return len(m.nodes) - 1
}

// name is any word, also one of the query's, but for those that mean something where it stands.
func (m *maker) name(but ...string) string {
	names := []string{"host", "n", "load", "up", "x_1", "fetch", "from", "to", "or", "and", "has", "count", "by", "true", "where", "not", "(", ")", ":", ",", "|", "=", "", "A", strings.Repeat("y", 80)}
	for {
		s := names[m.r.Intn(len(names))]
		if m.r.Intn(2) == 0 {
			s = names[m.r.Intn(5)]
		}
		if !strings.Contains(" "+strings.Join(but, " ")+" ", " "+s+" ") {
			m.put(word(s))
			return s
		}
	}
}

func (m *maker) number() int {
	n := []int{0, 1, -1, 5, 60, 1 << 40, -1 << 63, 1<<63 - 1}[m.r.Intn(8)]
	m.put(number(n))
	return n
}

func (m *maker) text() api.Value {
	s := []string{"", "a", "fetch", "(", "x\"y\\", strings.Repeat("z", 64), strings.Repeat("z", 65)}[m.r.Intn(7)]
	m.put(text(s))
	return api.Value{Kind: api.Str, S: s}
}

func (m *maker) names(but ...string) []string {
	l := []string{m.name(but...)}
	for m.r.Intn(2) == 0 {
		m.say(",")
		l = append(l, m.name())
	}
	return l
}

func (m *maker) agg() api.Agg {
	words := []string{"count", "sum", "min", "max", "mean", "merge"}
	kinds := []int{api.Count, api.Sum, api.Least, api.Most, api.Mean, api.Merge}
	k := m.r.Intn(len(words))
	m.say(words[k])
	if k == 0 {
		return api.Agg{Kind: api.Count}
	}
	return api.Agg{Kind: kinds[k], Col: m.name()}
}

func (m *maker) aggs() []api.Agg {
	l := []api.Agg{m.agg()}
	for m.r.Intn(2) == 0 {
		m.say(",")
		l = append(l, m.agg())
	}
	return l
}

func (m *maker) makeQuery(depth int) *maker {
	m.query(depth)
	return m
}

func (m *maker) query(depth int) int {
	m.say("fetch")
	n := api.Node{Kind: api.QFetch, S: m.name(), From: 0, To: 1<<40 - 1}
	if m.r.Intn(3) == 0 {
		m.say("from")
		n.From = m.number()
		m.say("to")
		n.To = m.number()
	}
	rows := m.lay(n)
	for range m.r.Intn(4) {
		m.say("|")
		rows = m.lay(m.step(rows, depth))
	}
	return rows
}

func (m *maker) step(rows, depth int) api.Node {
	kind := api.QWhere + m.r.Intn(7)
	if depth == 0 {
		kind = api.QKeep + m.r.Intn(4)
	}
	n := api.Node{Kind: kind, L: []int{rows}}
	switch kind {
	case api.QWhere:
		m.say("where")
		n.L = append(n.L, m.cond(m.tree(depth), 0))
	case api.QKeep:
		m.say("keep")
		n.Names = m.names()
	case api.QAlign:
		m.say("align")
		n.N = m.number()
	case api.QGroup:
		m.say("group")
		if m.r.Intn(3) > 0 {
			n.Names = m.names(":")
		}
		m.say(":")
		n.Aggs = m.aggs()
	case api.QTop:
		m.say("top")
		n.N = m.number()
		m.say("by")
		n.S = m.name()
	default:
		m.say(map[int]string{api.QJoin: "join (", api.QUnion: "union ("}[kind])
		n.L = append(n.L, m.query(depth-1))
		m.say(")")
	}
	return n
}

// tree is a condition's shape: a kind, with what is below it.
type tree struct {
	kind        int
	left, right *tree
}

func (m *maker) tree(depth int) *tree {
	if depth == 0 {
		return &tree{kind: api.PCmp + m.r.Intn(2)}
	}
	t := &tree{kind: api.PAnd + m.r.Intn(5)}
	if t.kind <= api.PNot {
		t.left = m.tree(depth - 1)
	}
	if t.kind <= api.POr {
		t.right = m.tree(depth - 1)
	}
	return t
}

// cond lays a condition where a cond (level 0), a both (1) or a not (2) is asked for: in brackets, if it is none, and now and then if it is.
func (m *maker) cond(t *tree, level int) int {
	own := map[int]int{api.POr: 0, api.PAnd: 1, api.PNot: 2, api.PCmp: 2, api.PHas: 2}[t.kind]
	if own < level || m.r.Intn(8) == 0 {
		m.say("(")
		i := m.bare(t)
		m.say(")")
		return i
	}
	return m.bare(t)
}

func (m *maker) bare(t *tree) int {
	switch t.kind {
	case api.POr, api.PAnd:
		level := api.POr - t.kind
		a := m.cond(t.left, level)
		m.say(map[int]string{api.POr: "or", api.PAnd: "and"}[t.kind])
		return m.lay(api.Node{Kind: t.kind, L: []int{a, m.cond(t.right, level+1)}})
	case api.PNot:
		m.say("not")
		return m.lay(api.Node{Kind: api.PNot, L: []int{m.cond(t.left, 2)}})
	}
	n := api.Node{Kind: t.kind, S: m.name("not", "(")}
	if t.kind == api.PHas {
		m.say("has")
		n.V = m.text()
		return m.lay(n)
	}
	n.N = 1 + m.r.Intn(6)
	m.say(strings.Fields("= != < <= > >=")[n.N-1])
	n.V = m.value()
	return m.lay(n)
}

func (m *maker) value() api.Value {
	switch m.r.Intn(4) {
	case 0:
		return m.text()
	case 1:
		m.say("true")
		return api.Value{Kind: api.Bool, N: 1}
	case 2:
		m.say("false")
		return api.Value{Kind: api.Bool}
	}
	return api.Value{Kind: api.Int, N: m.number()}
}
