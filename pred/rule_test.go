package pred_test

import (
	"strings"

	"catchment/api"
)

// The chapter's rules written out a second time, with chapter 1's for the order of values, and without any of the program's calls.

// ruleCompare is the order of values: Kind, N, S, H.
func ruleCompare(a, b api.Value) int {
	numbers := [][2]int{{a.Kind, b.Kind}, {a.N, b.N}, {strings.Compare(a.S, b.S), 0}}
	for k := range a.H {
		numbers = append(numbers, [2]int{a.H[k], b.H[k]})
	}
	for _, x := range numbers {
		if x[0] < x[1] {
			return -1
		}
		if x[0] > x[1] {
			return 1
		}
	}
	return 0
}

func ruleCmp(how int, a, b api.Value) bool {
	c := ruleCompare(a, b)
	held := map[int]bool{api.Eq: c == 0, api.Ne: c != 0, api.Lt: c < 0, api.Le: c <= 0, api.Gt: c > 0, api.Ge: c >= 0}
	return a.Kind == b.Kind && held[how]
}

// ruleHolds is P15.1. It goes down all ways, so that it is for small queries alone.
func ruleHolds(q api.Query, i int, cols []api.Col, row []api.Value) bool {
	if i < 0 || i >= len(q.N) {
		return false
	}
	n := q.N[i]
	var below []bool
	for _, at := range n.L {
		if n.Kind == api.PCmp || n.Kind == api.PHas {
			break
		}
		if at < 0 || at >= i {
			return false
		}
		below = append(below, ruleHolds(q, at, cols, row))
	}
	v, found := ruleValue(n.S, cols, row)
	switch {
	case n.Kind == api.PCmp:
		return found && ruleCmp(n.N, v, n.V)
	case n.Kind == api.PHas:
		return found && v.Kind == api.Str && strings.Contains(v.S, n.V.S)
	case n.Kind == api.PNot && len(below) == 1:
		return !below[0]
	case n.Kind == api.PAnd && len(below) == 2:
		return below[0] && below[1]
	case n.Kind == api.POr && len(below) == 2:
		return below[0] || below[1]
	}
	return false
}

func ruleValue(name string, cols []api.Col, row []api.Value) (api.Value, bool) {
	for k, c := range cols {
		if c.Name == name {
			if k < len(row) {
				return row[k], true
			}
			return api.Value{}, false
		}
	}
	return api.Value{}, false
}

// ruleWhere is P15.2.
func ruleWhere(t api.Table, q api.Query, i int) api.Table {
	out := api.Table{Cols: t.Cols}
	for _, row := range t.Rows {
		if ruleHolds(q, i, t.Cols, row) {
			out.Rows = append(out.Rows, row)
		}
	}
	return out
}
