package group

import (
	"slices"
	"strconv"

	"catchment/api"
	"catchment/table"
	"catchment/value"
)

// part is a column of parts behind the names: an aggregate of which two can be laid together.
type part struct {
	name string
	agg  api.Agg
}

func partsOf(aggs []api.Agg) []part {
	var out []part
	for i, a := range aggs {
		name := "p#" + strconv.Itoa(i)
		if a.Kind != api.Mean {
			out = append(out, part{name, a})
			continue
		}
		// Of two means nobody can tell that of all; of their sums and numbers they can.
		out = append(out, part{name, api.Agg{Kind: api.Sum, Col: a.Col}}, part{name + "#n", api.Agg{Kind: api.Count}})
	}
	return out
}

// partCols leans on it that all aggregates but counts have the kind of their column.
func partCols(cols, named []api.Col, aggs []api.Agg) []api.Col {
	out := slices.Clone(named)
	for _, p := range partsOf(aggs) {
		kind := api.Int
		if p.agg.Kind != api.Count {
			kind = cols[table.Find(cols, p.agg.Col)].Kind
		}
		out = append(out, api.Col{Name: p.name, Kind: kind})
	}
	return out
}

// wholeOf tells what is wrong with a table of parts, or the columns that it is to have when it is whole.
func wholeOf(t api.Table, names []string, aggs []api.Agg) ([]api.Col, api.Errno) {
	if e := table.Check(t); e != api.OK {
		return nil, e
	}
	parts, whole, ok := Cols(sourceOf(t.Cols, names, aggs), names, aggs)
	if !ok || !slices.Equal(parts, t.Cols) {
		return nil, api.ErrArg
	}
	return whole, api.OK
}

// sourceOf are columns of which there are such parts, if any are: those that are asked for, of the kinds that their parts have. More columns, or another order, would make no other parts.
func sourceOf(parts []api.Col, names []string, aggs []api.Agg) []api.Col {
	asked := slices.Clone(names)
	for _, p := range partsOf(aggs) {
		asked = append(asked, p.agg.Col)
	}
	// How many there are comes first: only then is looking for each among all of them cheap.
	if len(asked) != len(parts) {
		return nil
	}
	var out []api.Col
	for i, name := range asked {
		if name != "" && table.Find(out, name) < 0 {
			out = append(out, api.Col{Name: name, Kind: parts[i].Kind})
		}
	}
	if len(out) == 0 {
		// Counts ask for none, but no table is without: any column will do.
		return []api.Col{{Name: "any", Kind: api.Int}}
	}
	return out
}

// sharesOf tells of a row what it is alone of its group.
func sharesOf(cols []api.Col, names []string, aggs []api.Agg) func(row []api.Value) []api.Value {
	var shares []func(row []api.Value) api.Value
	take := func(name string) {
		at := table.Find(cols, name)
		shares = append(shares, func(row []api.Value) api.Value { return row[at] })
	}
	for _, name := range names {
		take(name)
	}
	for _, p := range partsOf(aggs) {
		if p.agg.Kind == api.Count {
			shares = append(shares, func([]api.Value) api.Value { return value.OfInt(1) })
		} else {
			take(p.agg.Col)
		}
	}
	return func(row []api.Value) []api.Value {
		return mapped(shares, func(share func([]api.Value) api.Value) api.Value { return share(row) })
	}
}

// finisher tells of a row of parts what its group is.
func finisher(names int, aggs []api.Agg) func(row []api.Value) []api.Value {
	return func(row []api.Value) []api.Value {
		out := slices.Clone(row[:names])
		left := row[names:]
		for _, a := range aggs {
			v := left[0]
			left = left[1:]
			if a.Kind == api.Mean {
				v = mean(v.N, left[0].N)
				left = left[1:]
			}
			out = append(out, v)
		}
		return out
	}
}

func mean(sum, many int) api.Value {
	if many == 0 {
		return value.OfInt(0)
	}
	return value.OfInt(sum / many)
}
