package check

import (
	"slices"

	"catchment/api"
	"catchment/table"
	"catchment/value"
)

// test is what a column has to be where it stands.
type test func(c api.Col) bool

func ofKind(kind int) test { return func(c api.Col) bool { return c.Kind == kind } }

func anyKind(api.Col) bool { return true }

// isPlain: Hists are neither held against values nor put in an order.
func isPlain(c api.Col) bool { return c.Kind != api.Hist }

// column is the first one of a name, if it passes the test.
func column(cols []api.Col, name string, passes test) (api.Col, bool) {
	at := table.Find(cols, name)
	if at < 0 || !passes(cols[at]) {
		return api.Col{}, false
	}
	return cols[at], true
}

func has(cols []api.Col, name string, passes test) bool {
	_, ok := column(cols, name, passes)
	return ok
}

func mayBe(cols []api.Col) bool { return table.Check(api.Table{Cols: cols}) == api.OK }

// step is the columns of a node that names rows, and whether it may be.
func (w *walker) step(i int) ([]api.Col, bool) {
	n := w.nodes[i]
	rows := w.cols[n.L[0]]
	switch n.Kind {
	case api.QWhere:
		return slices.Clone(rows), w.fits(i, rows)
	case api.QKeep:
		kept, ok := picked(rows, n.Names, anyKind)
		return kept, ok && len(kept) > 0
	case api.QAlign:
		return slices.Clone(rows), n.N >= 1 && has(rows, "time", ofKind(api.Int))
	case api.QGroup:
		return grouped(rows, n.Names, n.Aggs)
	case api.QTop:
		return slices.Clone(rows), n.N >= 1 && n.N <= api.MaxTop && has(rows, n.S, isPlain)
	case api.QJoin:
		return joined(rows, w.cols[n.L[1]])
	case api.QUnion:
		return slices.Clone(rows), slices.Equal(rows, w.cols[n.L[1]])
	}
	return nil, false
}

// fits looks at each node of a QWhere's condition once, however many name it: there may be more ways down to a node than could be gone.
func (w *walker) fits(where int, cols []api.Col) bool {
	left := []int{w.nodes[where].L[1]}
	for len(left) > 0 {
		i := left[len(left)-1]
		left = left[:len(left)-1]
		// A QWhere is never the node 0, so that a nought says that the node was not looked at.
		if w.asked[i] == where {
			continue
		}
		w.asked[i] = where
		n := w.nodes[i]
		if passes := testOf(n); passes != nil && !has(cols, n.S, passes) {
			return false
		}
		left = append(left, n.L...)
	}
	return true
}

// testOf is what the column of a condition has to be; there is none of one that has no column.
func testOf(n api.Node) test {
	switch n.Kind {
	case api.PCmp:
		return func(c api.Col) bool {
			return isPlain(c) && c.Kind == n.V.Kind && value.Valid(n.V) && mayHold(n.N, c.Kind)
		}
	case api.PHas:
		return func(c api.Col) bool {
			return c.Kind == api.Str && n.V.Kind == api.Str && value.Valid(n.V)
		}
	}
	return nil
}

// mayHold leans on the comparisons' numbers: those that go by order are the last ones.
func mayHold(how, kind int) bool {
	if kind == api.Bool {
		return how >= api.Eq && how <= api.Ne
	}
	return how >= api.Eq && how <= api.Ge
}

// picked are the columns of some names, in their order, if each passes the test and none stands twice.
func picked(cols []api.Col, names []string, passes test) ([]api.Col, bool) {
	var out []api.Col
	for _, name := range names {
		c, ok := column(cols, name, passes)
		if !ok || table.Find(out, name) >= 0 {
			return nil, false
		}
		out = append(out, c)
	}
	return out, true
}

func grouped(cols []api.Col, names []string, aggs []api.Agg) ([]api.Col, bool) {
	out, ok := picked(cols, names, isPlain)
	if !ok || len(aggs) == 0 {
		return nil, false
	}
	for _, a := range aggs {
		c, ok := aggregated(cols, a)
		if !ok {
			return nil, false
		}
		out = append(out, c)
	}
	return out, mayBe(out)
}

func aggregated(cols []api.Col, a api.Agg) (api.Col, bool) {
	if a.Kind == api.Count {
		return api.Col{Name: Name(a), Kind: api.Int}, a.Col == ""
	}
	// Each of the others answers what it takes: sums and means Ints, merges Hists.
	c, ok := column(cols, a.Col, taken(a.Kind))
	return api.Col{Name: Name(a), Kind: c.Kind}, ok
}

// taken is what the column of an aggregate has to be.
func taken(agg int) test {
	switch agg {
	case api.Sum, api.Mean:
		return ofKind(api.Int)
	case api.Least, api.Most:
		return isPlain
	case api.Merge:
		return ofKind(api.Hist)
	}
	return func(api.Col) bool { return false }
}

// joined are the columns of both, those of the second that are shared left out.
func joined(first, second []api.Col) ([]api.Col, bool) {
	out := slices.Clone(first)
	for _, c := range second {
		if table.Find(first, c.Name) < 0 {
			out = append(out, c)
		} else if !isPlain(c) || !has(first, c.Name, ofKind(c.Kind)) {
			return nil, false
		}
	}
	isShared := len(out) < len(first)+len(second)
	return out, isShared && len(out) <= api.MaxCols
}
