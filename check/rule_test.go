package check_test

import (
	"slices"
	"strings"

	"catchment/api"
)

// The chapter's rules written out a second time, with the other layers' rules that they name, and without any of the program's calls.

const nameBytes = "abcdefghijklmnopqrstuvwxyz0123456789_#"

func ruleName(a api.Agg) string {
	if a.Kind == api.Count {
		return "count"
	}
	ahead := map[int]string{api.Sum: "sum", api.Least: "min", api.Most: "max", api.Mean: "mean", api.Merge: "merge"}[a.Kind]
	if ahead == "" {
		return ""
	}
	return ahead + "_" + a.Col
}

// mayBeTable is chapter 2's rule for columns.
func mayBeTable(cols []api.Col) bool {
	seen := map[string]bool{}
	for _, c := range cols {
		ok := len(c.Name) > 0 && len(c.Name) <= 24 && c.Name[0] >= 'a' && c.Name[0] <= 'z'
		for i := range len(c.Name) {
			ok = ok && strings.IndexByte(nameBytes, c.Name[i]) >= 0
		}
		if !ok || seen[c.Name] || c.Kind < 1 || c.Kind > 4 {
			return false
		}
		seen[c.Name] = true
	}
	return len(cols) >= 1 && len(cols) <= 16
}

// isValid is chapter 1's rule for values.
func isValid(v api.Value) bool {
	switch v.Kind {
	case api.Int:
		return v == api.Value{Kind: api.Int, N: v.N}
	case api.Str:
		return v == api.Value{Kind: api.Str, S: v.S} && len(v.S) <= 64
	case api.Bool:
		return v == api.Value{Kind: api.Bool, N: v.N} && (v.N == 0 || v.N == 1)
	case api.Hist:
		return v == api.Value{Kind: api.Hist, H: v.H}
	}
	return false
}

// kindsOf leads from a name to the kind of the first column of that name.
func kindsOf(cols []api.Col) map[string]int {
	m := map[string]int{}
	for _, c := range slices.Backward(cols) {
		m[c.Name] = c.Kind
	}
	return m
}

// shapes are what the nodes of a kind name: r rows, c a condition.
var shapes = map[int]string{
	api.QFetch: "", api.QInput: "", api.PCmp: "", api.PHas: "", api.QKeep: "r", api.QAlign: "r", api.QGroup: "r", api.QTop: "r",
	api.QJoin: "rr", api.QUnion: "rr", api.QWhere: "rc", api.PNot: "c", api.PAnd: "cc", api.POr: "cc",
}

func letterOf(kind int) byte {
	if kind > 10 {
		return 'c'
	}
	return 'r'
}

func ruleShape(nodes []api.Node, i int) bool {
	shape, known := shapes[nodes[i].Kind]
	if !known || len(nodes[i].L) != len(shape) {
		return false
	}
	for k, at := range nodes[i].L {
		if at < 0 || at >= i || letterOf(nodes[at].Kind) != shape[k] {
			return false
		}
	}
	return true
}

// ruleFits goes down all ways, so that it is for small queries alone.
func ruleFits(nodes []api.Node, i int, kinds map[string]int) bool {
	n := nodes[i]
	for _, at := range n.L {
		if !ruleFits(nodes, at, kinds) {
			return false
		}
	}
	kind, found := kinds[n.S]
	switch n.Kind {
	case api.PCmp:
		if !found || kind == api.Hist || !isValid(n.V) || n.V.Kind != kind {
			return false
		}
		return n.N == api.Eq || n.N == api.Ne || kind != api.Bool && (n.N == api.Lt || n.N == api.Le || n.N == api.Gt || n.N == api.Ge)
	case api.PHas:
		return found && kind == api.Str && isValid(n.V) && n.V.Kind == api.Str
	}
	return true
}

// ruleTypes is P14.2.
func ruleTypes(l []api.Schema, q api.Query, inputs [][]api.Col) (all [][]api.Col, at int, e api.Errno) {
	for i, n := range q.N {
		if !ruleShape(q.N, i) {
			return nil, i, api.ErrParse
		}
		var own []api.Col
		switch {
		case n.Kind > 10:
		case n.Kind == api.QFetch:
			own, e = ruleFetch(l, n.S)
		case n.Kind == api.QInput:
			if n.N < 0 || n.N >= len(inputs) || !mayBeTable(inputs[n.N]) {
				e = api.ErrParse
			} else {
				own = inputs[n.N]
			}
		default:
			if own = ruleStep(q.N, i, all); own == nil {
				e = api.ErrType
			}
		}
		if e != api.OK {
			return nil, i, e
		}
		all = append(all, own)
	}
	return all, 0, api.OK
}

func ruleFetch(l []api.Schema, name string) ([]api.Col, api.Errno) {
	for _, s := range l {
		if s.Name == name {
			return append(append([]api.Col{{Name: "time", Kind: api.Int}}, s.Keys...), s.Vals...), api.OK
		}
	}
	return nil, api.ErrSchema
}

// ruleStep is the columns of a step; none, if it may not be.
func ruleStep(nodes []api.Node, i int, all [][]api.Col) []api.Col {
	n := nodes[i]
	rows := all[n.L[0]]
	kinds := kindsOf(rows)
	ok := false
	switch n.Kind {
	case api.QWhere:
		ok = ruleFits(nodes, n.L[1], kinds)
	case api.QKeep:
		return ruleNames(n.Names, kinds)
	case api.QAlign:
		ok = n.N > 0 && kinds["time"] == api.Int
	case api.QGroup:
		return ruleGroup(n, kinds)
	case api.QTop:
		kind, found := kinds[n.S]
		ok = n.N > 0 && n.N < 1001 && found && kind != api.Hist
	case api.QJoin:
		return ruleJoin(rows, all[n.L[1]])
	case api.QUnion:
		ok = slices.Equal(rows, all[n.L[1]])
	}
	if !ok {
		return nil
	}
	return rows
}

func ruleNames(names []string, kinds map[string]int) []api.Col {
	var out []api.Col
	seen := map[string]bool{}
	for _, name := range names {
		kind, found := kinds[name]
		if !found || seen[name] {
			return nil
		}
		seen[name] = true
		out = append(out, api.Col{Name: name, Kind: kind})
	}
	return out
}

func ruleGroup(n api.Node, kinds map[string]int) []api.Col {
	out := ruleNames(n.Names, kinds)
	if len(out) != len(n.Names) || len(n.Aggs) == 0 {
		return nil
	}
	for _, c := range out {
		if c.Kind == api.Hist {
			return nil
		}
	}
	for _, a := range n.Aggs {
		kind, found := kinds[a.Col]
		switch a.Kind {
		case api.Count:
			kind, found = api.Int, a.Col == ""
		case api.Sum, api.Mean:
			found = found && kind == api.Int
		case api.Least, api.Most:
			found = found && kind != api.Hist
		case api.Merge:
			found = found && kind == api.Hist
		default:
			found = false
		}
		if !found {
			return nil
		}
		out = append(out, api.Col{Name: ruleName(a), Kind: kind})
	}
	if !mayBeTable(out) {
		return nil
	}
	return out
}

func ruleJoin(a, b []api.Col) []api.Col {
	kinds := kindsOf(a)
	out := slices.Clone(a)
	shared := 0
	for _, c := range b {
		kind, found := kinds[c.Name]
		if !found {
			out = append(out, c)
			continue
		}
		if kind != c.Kind || kind == api.Hist {
			return nil
		}
		shared++
	}
	if shared == 0 || len(out) > 16 {
		return nil
	}
	return out
}
