package pred

import (
	"slices"
	"strings"

	"catchment/api"
	"catchment/table"
	"catchment/value"
)

// test tells of a row whether a node holds for it.
type test func(row []api.Value) bool

func never([]api.Value) bool { return false }

// condition is the test of a node. For each row the nodes that it stands on are tested once, those ahead first: what is below two of them need not be tested twice, and no depth is too great.
func condition(nodes []api.Node, i int, cols []api.Col) test {
	if i < 0 || i >= len(nodes) {
		return never
	}
	held := make([]bool, i+1)
	var steps []func(row []api.Value)
	for at, is := range needed(nodes, i) {
		if is {
			holds := nodeTest(nodes[at], at, cols, held)
			steps = append(steps, func(row []api.Value) { held[at] = holds(row) })
		}
	}
	return func(row []api.Value) bool {
		for _, step := range steps {
			step(row)
		}
		return held[i]
	}
}

// needed tells of each node up to i whether i stands on it, or is it. One pass does it, as none stands on one that is not ahead.
func needed(nodes []api.Node, i int) []bool {
	need := make([]bool, i+1)
	need[i] = true
	for at := i; at >= 0; at-- {
		if need[at] {
			for _, l := range below(nodes[at], at) {
				need[l] = true
			}
		}
	}
	return need
}

// below are the nodes that the node at that place stands on; none, if they are not as many as its kind asks for, each ahead of it.
func below(n api.Node, at int) []int {
	notAhead := func(l int) bool { return l < 0 || l >= at }
	if len(n.L) != howMany(n.Kind) || slices.ContainsFunc(n.L, notAhead) {
		return nil
	}
	return n.L
}

func howMany(kind int) int {
	switch kind {
	case api.PNot:
		return 1
	case api.PAnd, api.POr:
		return 2
	}
	return 0
}

// nodeTest goes by what was held of the nodes ahead, for the same row.
func nodeTest(n api.Node, at int, cols []api.Col, held []bool) test {
	switch n.Kind {
	case api.PCmp:
		return ofValue(table.Find(cols, n.S), func(v api.Value) bool { return value.Holds(n.N, v, n.V) })
	case api.PHas:
		return ofValue(table.Find(cols, n.S), func(v api.Value) bool { return v.Kind == api.Str && strings.Contains(v.S, n.V.S) })
	}
	l := below(n, at)
	switch {
	case len(l) == 0:
		return never
	case n.Kind == api.PNot:
		return func([]api.Value) bool { return !held[l[0]] }
	case n.Kind == api.PAnd:
		return func([]api.Value) bool { return held[l[0]] && held[l[1]] }
	}
	// What is left is a POr: no other kind has nodes below.
	return func([]api.Value) bool { return held[l[0]] || held[l[1]] }
}

// ofValue is a test of the value at a place: where none stands, it does not hold.
func ofValue(at int, holds func(v api.Value) bool) test {
	return func(row []api.Value) bool { return at >= 0 && at < len(row) && holds(row[at]) }
}
