package rowops_test

import (
	"math/big"
	"slices"
	"strings"

	"catchment/api"
	"catchment/pred"
	"catchment/table"
)

// The chapter's rules written out a second time, with chapter 1's for the order of values. Of the program's calls there are only those that the chapter names: table.Check, and of pred what tells of one row.

// ruleCompare is the order of values: Kind, N, S, H.
func ruleCompare(a, b api.Value) int {
	if a.Kind != b.Kind {
		return sign(a.Kind < b.Kind)
	}
	if a.N != b.N {
		return sign(a.N < b.N)
	}
	if c := strings.Compare(a.S, b.S); c != 0 {
		return c
	}
	for k := range a.H {
		if a.H[k] != b.H[k] {
			return sign(a.H[k] < b.H[k])
		}
	}
	return 0
}

func sign(below bool) int {
	if below {
		return -1
	}
	return 1
}

func ruleCompareRows(a, b []api.Value) int {
	for k := range min(len(a), len(b)) {
		if c := ruleCompare(a[k], b[k]); c != 0 {
			return c
		}
	}
	return len(a) - len(b)
}

func ruleCanon(t api.Table) api.Table {
	out := cloneTable(t)
	slices.SortStableFunc(out.Rows, ruleCompareRows)
	return out
}

// ruleMultiple reckons with numbers without end.
func ruleMultiple(n, width int) int {
	time := big.NewInt(int64(n))
	rest := new(big.Int).Mod(time, big.NewInt(int64(width)))
	out := new(big.Int).Sub(time, rest)
	if !out.IsInt64() {
		return n
	}
	return int(out.Int64())
}

// ruleCol is the place of a column; -1, if there is none, or it is of a kind that may not be.
func ruleCol(t api.Table, name string, kinds ...int) int {
	for k, c := range t.Cols {
		if c.Name == name && slices.Contains(kinds, c.Kind) {
			return k
		}
	}
	return -1
}

// ruleAlign is P16.1.
func ruleAlign(t api.Table, width int) (api.Table, api.Errno) {
	if e := table.Check(t); e != api.OK {
		return api.Table{}, e
	}
	at := ruleCol(t, "time", api.Int)
	if width < 1 || at < 0 {
		return api.Table{}, api.ErrArg
	}
	out := cloneTable(t)
	for _, row := range out.Rows {
		row[at].N = ruleMultiple(row[at].N, width)
	}
	return ruleCanon(out), api.OK
}

// ruleTop is P16.2: a row is in it, if less than n come ahead of it.
func ruleTop(t api.Table, n int, name string) (api.Table, api.Errno) {
	if e := table.Check(t); e != api.OK {
		return api.Table{}, e
	}
	at := ruleCol(t, name, api.Int, api.Str, api.Bool)
	if n < 1 || n > 1000 || at < 0 {
		return api.Table{}, api.ErrArg
	}
	all := ruleCanon(t)
	out := api.Table{Cols: all.Cols}
	for k, row := range all.Rows {
		ahead := 0
		for j, other := range all.Rows {
			c := ruleCompare(other[at], row[at])
			if c > 0 || c == 0 && j < k {
				ahead++
			}
		}
		if ahead < n {
			out.Rows = append(out.Rows, row)
		}
	}
	return out, api.OK
}

// ruleFilter is P16.3.
func ruleFilter(t api.Table, q api.Query, i int) (api.Table, api.Errno) {
	if e := table.Check(t); e != api.OK {
		return api.Table{}, e
	}
	out := api.Table{Cols: t.Cols}
	for _, row := range t.Rows {
		if pred.Holds(q, i, t.Cols, row) {
			out.Rows = append(out.Rows, row)
		}
	}
	return ruleCanon(out), api.OK
}
