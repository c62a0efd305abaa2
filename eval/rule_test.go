package eval_test

import (
	"slices"

	"catchment/api"
	"catchment/check"
	"catchment/group"
	"catchment/join"
	"catchment/rowops"
	"catchment/schema"
	"catchment/table"
)

// The chapter's rules written out a second time. Of the program's calls there are only those that the chapter names, and table.Canon for the order of rows.

func ruleRun(l []api.Schema, q api.Query, db []api.Named, inputs []api.Table, most int) (api.Table, api.Errno) {
	for _, d := range db {
		if !ruleOfSchema(l, d) {
			return api.Table{}, api.ErrArg
		}
	}
	var cols [][]api.Col
	for _, t := range inputs {
		if table.Check(t) != api.OK {
			return api.Table{}, api.ErrArg
		}
		cols = append(cols, t.Cols)
	}
	if _, _, e := check.Types(l, q, cols); e != api.OK {
		return api.Table{}, e
	}
	if len(q.N) == 0 || q.N[len(q.N)-1].Kind > 10 {
		return api.Table{}, api.ErrParse
	}
	tables := map[int]api.Table{}
	for i, n := range q.N {
		if n.Kind > 10 {
			continue
		}
		t, e := ruleTable(l, q, n, db, inputs, most, tables)
		if e != api.OK {
			return api.Table{}, e
		}
		if len(t.Rows) > most {
			return api.Table{}, api.ErrBudget
		}
		tables[i] = t
	}
	return tables[len(q.N)-1], api.OK
}

func ruleOfSchema(l []api.Schema, d api.Named) bool {
	for _, s := range l {
		if s.Name == d.Name {
			return slices.Equal(d.T.Cols, schema.Cols(s)) && table.Check(d.T) == api.OK
		}
	}
	return false
}

// ruleTable is a node's table, where those of the nodes ahead are at hand.
func ruleTable(l []api.Schema, q api.Query, n api.Node, db []api.Named, inputs []api.Table, most int, tables map[int]api.Table) (api.Table, api.Errno) {
	switch n.Kind {
	case api.QFetch:
		return ruleFetch(l, n, db), api.OK
	case api.QInput:
		return table.Canon(inputs[n.N]), api.OK
	}
	t := tables[n.L[0]]
	switch n.Kind {
	case api.QWhere:
		return rowops.Filter(t, q, n.L[1])
	case api.QKeep:
		return table.Keep(t, n.Names)
	case api.QAlign:
		return rowops.Align(t, n.N)
	case api.QTop:
		return rowops.Top(t, n.N, n.S)
	case api.QJoin:
		return join.Join(t, tables[n.L[1]], most)
	case api.QUnion:
		return table.Union(t, tables[n.L[1]])
	}
	if _, _, ok := group.Cols(t.Cols, n.Names, n.Aggs); !ok && table.Check(t) == api.OK {
		return api.Table{}, api.ErrType
	}
	return group.Group(t, n.Names, n.Aggs)
}

func ruleFetch(l []api.Schema, n api.Node, db []api.Named) api.Table {
	s, _ := schema.Find(l, n.S)
	out := api.Table{Cols: schema.Cols(s)}
	for _, d := range db {
		for _, row := range d.T.Rows {
			if d.Name == n.S && n.From <= row[0].N && row[0].N <= n.To {
				out.Rows = append(out.Rows, row)
			}
		}
	}
	return table.Canon(out)
}
