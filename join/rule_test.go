package join_test

import (
	"slices"
	"strings"

	"catchment/api"
	"catchment/table"
)

// The chapter's rules written out a second time, with those of chapters 1 and 2 for the order of rows. Of the program's calls there is only the one that the chapter names: table.Check.

// ruleCompare is the order of values: Kind, N, S, H.
func ruleCompare(a, b api.Value) int {
	if a.Kind != b.Kind {
		return sign(a.Kind < b.Kind)
	}
	if a.N != b.N {
		return sign(a.N < b.N)
	}
	if c := strings.Compare(a.S, b.S); c != 0 {
		return c
	}
	for k := range a.H {
		if a.H[k] != b.H[k] {
			return sign(a.H[k] < b.H[k])
		}
	}
	return 0
}

func sign(below bool) int {
	if below {
		return -1
	}
	return 1
}

func ruleCompareRows(a, b []api.Value) int {
	for k := range min(len(a), len(b)) {
		if c := ruleCompare(a[k], b[k]); c != 0 {
			return c
		}
	}
	return len(a) - len(b)
}

func hasName(cols []api.Col, name string) bool {
	return slices.ContainsFunc(cols, func(c api.Col) bool { return c.Name == name })
}

// ruleCols is P17.1: each column of the one is held against each of the other.
func ruleCols(a, b []api.Col) ([]api.Col, bool) {
	shared := 0
	for _, x := range a {
		for _, y := range b {
			if x.Name != y.Name {
				continue
			}
			shared++
			if x.Kind != y.Kind || x.Kind == api.Hist {
				return nil, false
			}
		}
	}
	out := slices.Clone(a)
	for _, y := range b {
		if !hasName(a, y.Name) {
			out = append(out, y)
		}
	}
	if shared == 0 || len(out) > 16 {
		return nil, false
	}
	return out, true
}

// ruleRow is the row of two, if their values in all shared columns are the same.
func ruleRow(a, b []api.Col, x, y []api.Value) ([]api.Value, bool) {
	row := slices.Clone(x)
	for j, c := range b {
		if !hasName(a, c.Name) {
			row = append(row, y[j])
		}
		for i, d := range a {
			if c.Name == d.Name && x[i] != y[j] {
				return nil, false
			}
		}
	}
	return row, true
}

// ruleJoin is P17.2: each row of the one is held against each of the other.
func ruleJoin(a, b api.Table, most int) (api.Table, api.Errno) {
	if e := table.Check(a); e != api.OK {
		return api.Table{}, e
	}
	if e := table.Check(b); e != api.OK {
		return api.Table{}, e
	}
	cols, ok := ruleCols(a.Cols, b.Cols)
	if !ok {
		return api.Table{}, api.ErrCols
	}
	out := api.Table{Cols: cols}
	for _, x := range a.Rows {
		for _, y := range b.Rows {
			if row, same := ruleRow(a.Cols, b.Cols, x, y); same {
				out.Rows = append(out.Rows, row)
			}
		}
	}
	if len(out.Rows) > 0 && len(out.Rows) > most {
		return api.Table{}, api.ErrBudget
	}
	slices.SortStableFunc(out.Rows, ruleCompareRows)
	return out, api.OK
}
