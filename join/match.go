package join

import (
	"slices"

	"catchment/api"
	"catchment/table"
	"catchment/wire"
)

// match is how two tables' columns go together: the places of the shared ones in each, side by side, and those of the second table's others.
type match struct{ inFirst, inSecond, behind []int }

func matchOf(first, second []api.Col) (match, bool) {
	// So many columns have no join, whatever the second ones are; and among fewer it is cheap to look for each of these.
	if len(first) > api.MaxCols {
		return match{}, false
	}
	var m match
	for at, c := range second {
		if place := table.Find(first, c.Name); place < 0 {
			m.behind = append(m.behind, at)
		} else if mayBeShared(c, first) {
			m.inFirst, m.inSecond = append(m.inFirst, place), append(m.inSecond, at)
		} else {
			return match{}, false
		}
	}
	return m, len(m.inSecond) > 0 && len(first)+len(m.behind) <= api.MaxCols
}

// mayBeShared tells of a column whether it is what all of its name among others are, and no Hist.
func mayBeShared(c api.Col, others []api.Col) bool {
	isUnlike := func(o api.Col) bool { return o.Name == c.Name && o.Kind != c.Kind }
	return c.Kind != api.Hist && !slices.ContainsFunc(others, isUnlike)
}

// partners are, of each of the first rows, the second ones that go with it.
func (m match) partners(first, second [][]api.Value) [][][]api.Value {
	keyOfFirst, keyOfSecond := keyAt(m.inFirst), keyAt(m.inSecond)
	byKey := map[string][][]api.Value{}
	for _, row := range second {
		key := keyOfSecond(row)
		byKey[key] = append(byKey[key], row)
	}
	out := make([][][]api.Value, len(first))
	for i, row := range first {
		out[i] = byKey[keyOfFirst(row)]
	}
	return out
}

// keyAt tells of a row the bytes of its values at some places. Those of one kind do not run on into others, so that the same bytes are the same values, as long as the columns are of the same kinds.
func keyAt(places []int) func(row []api.Value) string {
	return func(row []api.Value) string {
		var key []byte
		for _, at := range places {
			// The rows were checked: each value is valid, and has bytes.
			key, _ = wire.Put(key, row[at])
		}
		return string(key)
	}
}
