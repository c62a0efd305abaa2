package eval

import (
	"catchment/api"
	"catchment/group"
	"catchment/join"
	"catchment/rowops"
	"catchment/table"
)

// runner goes through nodes that check.Types has let pass, from the first to the last, so that those that a node names have their tables already.
type runner struct {
	q      api.Query
	cols   [][]api.Col // of each node
	db     []api.Named
	inputs []api.Table
	most   int
	tables []api.Table // of the nodes so far; of a condition none
}

// run makes the tables of all nodes, also of those that no other one names: they too may be too much.
func (r *runner) run() api.Errno {
	for i, n := range r.q.N {
		var made api.Table
		if isOfRows(n) {
			var e api.Errno
			if made, e = r.within(r.step(i)); e != api.OK {
				return e
			}
		}
		r.tables = append(r.tables, made)
	}
	return api.OK
}

// step makes a node's table, in canonical order.
type step func() (api.Table, api.Errno)

func (r *runner) within(s step) (api.Table, api.Errno) {
	t, e := s()
	if e == api.OK && len(t.Rows) > r.most {
		return api.Table{}, api.ErrBudget
	}
	return t, e
}

func (r *runner) step(i int) step {
	n := r.q.N[i]
	switch n.Kind {
	case api.QFetch:
		return func() (api.Table, api.Errno) { return r.fetched(n, r.cols[i]), api.OK }
	case api.QInput:
		return func() (api.Table, api.Errno) { return table.Canon(r.inputs[n.N]), api.OK }
	case api.QJoin:
		return r.ofTwo(n, func(a, b api.Table) (api.Table, api.Errno) { return join.Join(a, b, r.most) })
	case api.QUnion:
		return r.ofTwo(n, table.Union)
	case api.QWhere:
		return r.ofOne(n, func(t api.Table) (api.Table, api.Errno) { return rowops.Filter(t, r.q, n.L[1]) })
	case api.QKeep:
		return r.ofOne(n, func(t api.Table) (api.Table, api.Errno) { return table.Keep(t, n.Names) })
	case api.QAlign:
		return r.ofOne(n, func(t api.Table) (api.Table, api.Errno) { return rowops.Align(t, n.N) })
	case api.QTop:
		return r.ofOne(n, func(t api.Table) (api.Table, api.Errno) { return rowops.Top(t, n.N, n.S) })
	}
	// What is left is a QGroup: no other kind is of rows.
	return r.ofOne(n, func(t api.Table) (api.Table, api.Errno) { return grouped(t, n) })
}

func (r *runner) ofOne(n api.Node, do func(t api.Table) (api.Table, api.Errno)) step {
	return func() (api.Table, api.Errno) { return do(r.tables[n.L[0]]) }
}

func (r *runner) ofTwo(n api.Node, do func(a, b api.Table) (api.Table, api.Errno)) step {
	return func() (api.Table, api.Errno) { return do(r.tables[n.L[0]], r.tables[n.L[1]]) }
}

// fetched has columns even where there is no table of the schema.
func (r *runner) fetched(n api.Node, cols []api.Col) api.Table {
	at := table.Find(cols, "time")
	found := api.Table{Cols: cols}
	for _, d := range r.db {
		if d.Name != n.S {
			continue
		}
		for _, row := range d.T.Rows {
			if time := row[at].N; time >= n.From && time <= n.To {
				found.Rows = append(found.Rows, row)
			}
		}
	}
	return table.Canon(found)
}

func grouped(t api.Table, n api.Node) (api.Table, api.Errno) {
	made, e := group.Group(t, n.Names, n.Aggs)
	// The group itself has been let pass: what may not be are its parts, and of them check.Types knows nothing.
	if e == api.ErrArg {
		return api.Table{}, api.ErrType
	}
	return made, e
}
