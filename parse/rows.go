package parse

import "catchment/api"

// step is one by its word. What it reads is all that stands behind that; its node is laid behind the nodes of what it read.
type step struct {
	word string
	read func(r *reader, rows int) api.Node
}

func steps() []step {
	return []step{
		{"where", (*reader).where},
		{"keep", (*reader).keep},
		{"align", (*reader).align},
		{"group", (*reader).group},
		{"top", (*reader).top},
		{"join", (*reader).join},
		{"union", (*reader).union},
	}
}

func (r *reader) query() int {
	rows := r.lay(r.fetch())
	for r.skip("|") {
		rows = r.lay(r.step(rows))
	}
	return rows
}

func (r *reader) fetch() api.Node {
	r.want("fetch")
	n := api.Node{Kind: api.QFetch, S: r.name(), To: api.MaxTime - 1}
	if r.skip("from") {
		n.From = r.number()
		r.want("to")
		n.To = r.number()
	}
	return n
}

func (r *reader) step(rows int) api.Node {
	for _, s := range steps() {
		if r.skip(s.word) {
			return s.read(r, rows)
		}
	}
	r.fail(api.ErrParse)
	return api.Node{}
}

func (r *reader) where(rows int) api.Node {
	return api.Node{Kind: api.QWhere, L: []int{rows, r.cond()}}
}

func (r *reader) keep(rows int) api.Node {
	return api.Node{Kind: api.QKeep, L: []int{rows}, Names: list(r, r.name)}
}

func (r *reader) align(rows int) api.Node {
	return api.Node{Kind: api.QAlign, L: []int{rows}, N: r.number()}
}

func (r *reader) group(rows int) api.Node {
	n := api.Node{Kind: api.QGroup, L: []int{rows}}
	if !r.skip(":") {
		n.Names = list(r, r.name)
		r.want(":")
	}
	n.Aggs = list(r, r.agg)
	return n
}

// agg leans on the aggregates' numbers: they are those of their words, in this order.
func (r *reader) agg() api.Agg {
	a := api.Agg{Kind: api.Count + r.oneOf("count", "sum", "min", "max", "mean", "merge")}
	if a.Kind != api.Count {
		a.Col = r.name()
	}
	return a
}

func (r *reader) top(rows int) api.Node {
	n := api.Node{Kind: api.QTop, L: []int{rows}, N: r.number()}
	r.want("by")
	n.S = r.name()
	return n
}

func (r *reader) join(rows int) api.Node {
	return api.Node{Kind: api.QJoin, L: []int{rows, r.inBrackets(r.query)}}
}

func (r *reader) union(rows int) api.Node {
	return api.Node{Kind: api.QUnion, L: []int{rows, r.inBrackets(r.query)}}
}
