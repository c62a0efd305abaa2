package group_test

import (
	"math/big"
	"slices"
	"strconv"
	"strings"

	"catchment/api"
	"catchment/check"
	"catchment/table"
)

// The chapter's rules written out a second time. Of the program's calls there are only those that the chapter names: check.Types, check.Name, table.Check.

// ruleCompare is the order of values: Kind, N, S, H.
func ruleCompare(a, b api.Value) int {
	if a.Kind != b.Kind {
		return sign(a.Kind < b.Kind)
	}
	if a.N != b.N {
		return sign(a.N < b.N)
	}
	if c := strings.Compare(a.S, b.S); c != 0 {
		return c
	}
	for k := range a.H {
		if a.H[k] != b.H[k] {
			return sign(a.H[k] < b.H[k])
		}
	}
	return 0
}

func sign(below bool) int {
	if below {
		return -1
	}
	return 1
}

func ruleCompareRows(a, b []api.Value) int {
	for k := range min(len(a), len(b)) {
		if c := ruleCompare(a[k], b[k]); c != 0 {
			return c
		}
	}
	return len(a) - len(b)
}

func ruleMayBe(cols []api.Col) bool { return table.Check(api.Table{Cols: cols}) == api.OK }

// ruleCols is P18.1.
func ruleCols(cols []api.Col, names []string, aggs []api.Agg) (parts, whole []api.Col, ok bool) {
	if !ruleMayBe(cols) {
		return nil, nil, false
	}
	whole, e := typesOf(cols, names, aggs)
	if e != api.OK {
		return nil, nil, false
	}
	for i := range whole {
		if i < len(names) {
			parts = append(parts, whole[i])
			continue
		}
		name := "p#" + strconv.Itoa(i-len(names))
		parts = append(parts, col(name, whole[i].Kind))
		if aggs[i-len(names)].Kind == api.Mean {
			parts = append(parts, col(name+"#n", api.Int))
		}
	}
	if !ruleMayBe(parts) {
		return nil, nil, false
	}
	return parts, whole, true
}

// ruleGroups holds each row against one of each group.
func ruleGroups(rows [][]api.Value, keyOf func(row []api.Value) []api.Value) [][][]api.Value {
	var groups [][][]api.Value
	for _, row := range rows {
		at := slices.IndexFunc(groups, func(g [][]api.Value) bool { return slices.Equal(keyOf(g[0]), keyOf(row)) })
		if at < 0 {
			at = len(groups)
			groups = append(groups, nil)
		}
		groups[at] = append(groups[at], row)
	}
	return groups
}

func valuesOf(rows [][]api.Value, at int) []api.Value {
	var l []api.Value
	for _, row := range rows {
		l = append(l, row[at])
	}
	return l
}

func ruleSum(l []api.Value) api.Value {
	out := api.Value{Kind: l[0].Kind}
	for _, v := range l {
		out.N += v.N
		for k := range v.H {
			out.H[k] += v.H[k]
		}
	}
	return out
}

// rulePart is what a kind of aggregate is of some values: of a column of a table, or of parts.
func rulePart(kind int, l []api.Value) api.Value {
	switch kind {
	case api.Least:
		return slices.MinFunc(l, ruleCompare)
	case api.Most:
		return slices.MaxFunc(l, ruleCompare)
	}
	return ruleSum(l)
}

// rulePartial is P18.2.
func rulePartial(t api.Table, names []string, aggs []api.Agg) (api.Table, api.Errno) {
	if e := table.Check(t); e != api.OK {
		return api.Table{}, e
	}
	parts, _, ok := ruleCols(t.Cols, names, aggs)
	if !ok {
		return api.Table{}, api.ErrArg
	}
	place := func(name string) int {
		return slices.IndexFunc(t.Cols, func(c api.Col) bool { return c.Name == name })
	}
	keyOf := func(row []api.Value) []api.Value {
		var l []api.Value
		for _, name := range names {
			l = append(l, row[place(name)])
		}
		return l
	}
	out := api.Table{Cols: parts}
	for _, rows := range ruleGroups(t.Rows, keyOf) {
		row := keyOf(rows[0])
		for _, a := range aggs {
			if a.Kind != api.Count {
				row = append(row, rulePart(a.Kind, valuesOf(rows, place(a.Col))))
			}
			if a.Kind == api.Count || a.Kind == api.Mean {
				row = append(row, intOf(len(rows)))
			}
		}
		out.Rows = append(out.Rows, row)
	}
	slices.SortFunc(out.Rows, ruleCompareRows)
	return out, api.OK
}

// ruleSource tries columns of all kinds for what is named: the whole ones of the first of which there are such parts.
func ruleSource(parts []api.Col, names []string, aggs []api.Agg) ([]api.Col, bool) {
	asked := []api.Col{col("zz", api.Int)}
	ask := func(name string) {
		if name != "" && !slices.ContainsFunc(asked, func(c api.Col) bool { return c.Name == name }) {
			asked = append(asked, col(name, api.Int))
		}
	}
	for _, name := range names {
		ask(name)
	}
	for _, a := range aggs {
		ask(a.Col)
	}
	for {
		if got, whole, ok := ruleCols(asked, names, aggs); ok && slices.Equal(got, parts) {
			return whole, true
		}
		// The kinds are counted on like digits; the column that nobody asked for stays.
		at := 1
		for at < len(asked) && asked[at].Kind == api.Hist {
			asked[at].Kind = api.Int
			at++
		}
		if at == len(asked) {
			return nil, false
		}
		asked[at].Kind++
	}
}

// ruleMerge is P18.3.
func ruleMerge(t api.Table, names []string, aggs []api.Agg) (api.Table, api.Errno) {
	if e := table.Check(t); e != api.OK {
		return api.Table{}, e
	}
	if _, ok := ruleSource(t.Cols, names, aggs); !ok {
		return api.Table{}, api.ErrArg
	}
	out := api.Table{Cols: t.Cols}
	for _, rows := range ruleGroups(t.Rows, func(row []api.Value) []api.Value { return row[:len(names)] }) {
		row := slices.Clone(rows[0][:len(names)])
		for _, a := range aggs {
			row = append(row, rulePart(a.Kind, valuesOf(rows, len(row))))
			if a.Kind == api.Mean {
				row = append(row, ruleSum(valuesOf(rows, len(row))))
			}
		}
		out.Rows = append(out.Rows, row)
	}
	slices.SortFunc(out.Rows, ruleCompareRows)
	return out, api.OK
}

// ruleFinish is P18.4, of a table that may be as of any that Merge takes.
func ruleFinish(t api.Table, names []string, aggs []api.Agg) (api.Table, api.Errno) {
	if _, e := ruleMerge(t, names, aggs); e != api.OK {
		return api.Table{}, e
	}
	out := api.Table{Cols: slices.Clone(t.Cols[:len(names)])}
	whole, _ := ruleSource(t.Cols, names, aggs)
	for i, a := range aggs {
		out.Cols = append(out.Cols, col(check.Name(a), whole[len(names)+i].Kind))
	}
	for _, row := range t.Rows {
		done, rest := slices.Clone(row[:len(names)]), row[len(names):]
		for _, a := range aggs {
			if a.Kind == api.Mean {
				done = append(done, ruleMean(rest[0].N, rest[1].N))
				rest = rest[2:]
			} else {
				done = append(done, rest[0])
				rest = rest[1:]
			}
		}
		out.Rows = append(out.Rows, done)
	}
	return out, api.OK
}

// ruleMean divides numbers without end, and takes of what comes of it the last 64 bits.
func ruleMean(sum, many int) api.Value {
	if many == 0 {
		return intOf(0)
	}
	q := new(big.Int).Quo(big.NewInt(int64(sum)), big.NewInt(int64(many)))
	low := new(big.Int).And(q, new(big.Int).SetUint64(1<<64-1))
	return intOf(int(low.Uint64()))
}

func ruleGroup(t api.Table, names []string, aggs []api.Agg) (api.Table, api.Errno) {
	for _, step := range []call{rulePartial, ruleMerge, ruleFinish} {
		var e api.Errno
		if t, e = step(t, names, aggs); e != api.OK {
			return api.Table{}, e
		}
	}
	return t, api.OK
}
