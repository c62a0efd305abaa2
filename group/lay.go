package group

import (
	"slices"

	"catchment/api"
	"catchment/table"
	"catchment/value"
)

// lay is how two values of a part are one.
type lay func(a, b api.Value) api.Value

// laidTogether has one row of each group; how many of the columns are names tells which rows are one.
func laidTogether(t api.Table, names int, aggs []api.Agg) api.Table {
	lays := mapped(partsOf(aggs), layOf)
	ofGroup := func(rows [][]api.Value) []api.Value {
		out := slices.Clone(rows[0])
		for _, row := range rows[1:] {
			for i, lay := range lays {
				out[names+i] = lay(out[names+i], row[names+i])
			}
		}
		return out
	}
	groups := gathered(t.Rows, keyOfFirst(names))
	return table.Canon(api.Table{Cols: t.Cols, Rows: mapped(groups, ofGroup)})
}

// gathered has those of a list that have the same key side by side.
func gathered[E any, K comparable](list []E, keyOf func(E) K) [][]E {
	places := map[K]int{}
	var out [][]E
	for _, e := range list {
		key := keyOf(e)
		at, isThere := places[key]
		if !isThere {
			at = len(out)
			places[key] = at
			out = append(out, nil)
		}
		out[at] = append(out[at], e)
	}
	return out
}

// keyOfFirst tells of a row the texts of its first values. A text tells where it ends, so that the same ones are the same values, as long as the columns are of the same kinds.
func keyOfFirst(many int) func(row []api.Value) string {
	return func(row []api.Value) string {
		var key []byte
		for _, v := range row[:many] {
			key = append(key, value.Text(v)...)
			key = append(key, ' ')
		}
		return string(key)
	}
}

func layOf(p part) lay {
	switch p.agg.Kind {
	case api.Least:
		return least
	case api.Most:
		return most
	}
	return sum
}

func least(a, b api.Value) api.Value {
	if value.Compare(b, a) < 0 {
		return b
	}
	return a
}

func most(a, b api.Value) api.Value {
	if value.Compare(b, a) > 0 {
		return b
	}
	return a
}

// sum is of values of a table that was checked, and of one column, both Ints or both Hists: these can be added.
func sum(a, b api.Value) api.Value {
	out, _ := value.Add(a, b)
	return out
}
