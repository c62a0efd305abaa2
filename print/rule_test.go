package print_test

import (
	"fmt"
	"reflect"
	"regexp"
	"strings"

	"catchment/api"
)

// judge is the chapters' rule for Check, Print and Cond, without lex and parse: it goes from the last node to the first, and tells whether each is such as the table of queries has it where it stands.
type judge struct {
	nodes  []api.Node
	tokens int
	wrong  bool
}

var aWord = regexp.MustCompile(`^[a-z][a-z0-9_]{0,23}$`)

func takes(q api.Query) bool {
	j := judge{nodes: q.N}
	if len(q.N) == 0 || len(q.N) > 128 {
		return false
	}
	first := j.rows(len(q.N)-1, 0)
	return !j.wrong && first == 0 && j.tokens <= 1024
}

func (j *judge) must(is bool) { j.wrong = j.wrong || !is }

func (j *judge) name(s string) {
	j.must(aWord.MatchString(s))
	j.tokens++
}

// opens counts a bracket or a not that stands within others.
func (j *judge) opens(within int) int {
	j.must(within < 16)
	return within + 1
}

// only tells that the node has nothing but this. L is asked for elsewhere; lists that are empty may be nil.
func (j *judge) only(n, want api.Node) {
	n.L, want.L = nil, nil
	if len(n.Names) == 0 && len(want.Names) == 0 {
		n.Names, want.Names = nil, nil
	}
	if len(n.Aggs) == 0 && len(want.Aggs) == 0 {
		n.Aggs, want.Aggs = nil, nil
	}
	j.must(reflect.DeepEqual(n, want))
}

// names tells whether a node names just these.
func names(n api.Node, l ...int) bool {
	if len(n.L) != len(l) {
		return false
	}
	for k := range l {
		if n.L[k] != l[k] {
			return false
		}
	}
	return true
}

// rows judges the rows that end with the node i, within so many that are open, and tells where they begin.
func (j *judge) rows(i, within int) (first int) {
	if j.wrong = j.wrong || i < 0; j.wrong {
		return 0
	}
	n := j.nodes[i]
	second := i
	switch n.Kind {
	case api.QFetch:
		return j.fetch(i)
	case api.QWhere:
		second = j.cond(i-1, within)
	case api.QJoin, api.QUnion:
		second = j.rows(i-1, j.opens(within))
		j.tokens += 2
	case api.QKeep, api.QAlign, api.QGroup, api.QTop:
	default:
		j.wrong = true
		return 0
	}
	if second < i {
		j.must(names(n, second-1, i-1))
		j.only(n, api.Node{Kind: n.Kind})
	} else {
		j.must(names(n, i-1))
		j.step(n)
	}
	j.tokens += 2
	return j.rows(second-1, within)
}

func (j *judge) fetch(i int) (first int) {
	n := j.nodes[i]
	j.must(names(n))
	j.only(n, api.Node{Kind: api.QFetch, S: n.S, From: n.From, To: n.To})
	j.tokens++
	j.name(n.S)
	if n.From != 0 || n.To != 1<<40-1 {
		j.tokens += 4
	}
	return i
}

func (j *judge) step(n api.Node) {
	switch n.Kind {
	case api.QKeep:
		j.only(n, api.Node{Kind: n.Kind, Names: n.Names})
		j.must(len(n.Names) > 0)
	case api.QAlign:
		j.only(n, api.Node{Kind: n.Kind, N: n.N})
		j.tokens++
	case api.QGroup:
		j.only(n, api.Node{Kind: n.Kind, Names: n.Names, Aggs: n.Aggs})
		j.must(len(n.Aggs) > 0)
		j.tokens++
	case api.QTop:
		j.only(n, api.Node{Kind: n.Kind, N: n.N, S: n.S})
		j.tokens += 2
		j.name(n.S)
	}
	for _, s := range n.Names {
		j.name(s)
	}
	for _, a := range n.Aggs {
		j.agg(a)
	}
	j.tokens += max(0, len(n.Names)-1) + max(0, len(n.Aggs)-1)
}

func (j *judge) agg(a api.Agg) {
	j.must(1 <= a.Kind && a.Kind <= 6)
	j.tokens++
	if a.Kind == api.Count {
		j.must(a.Col == "")
		return
	}
	j.name(a.Col)
}

// cond judges the condition that ends with the node i.
func (j *judge) cond(i, within int) (first int) {
	if j.wrong = j.wrong || i < 0; j.wrong {
		return 0
	}
	switch n := j.nodes[i]; n.Kind {
	case api.PAnd, api.POr:
		j.only(n, api.Node{Kind: n.Kind})
		j.tokens++
		second := j.inner(i, i-1, true, within)
		j.must(names(n, second-1, i-1))
		return j.inner(i, second-1, false, within)
	case api.PNot:
		j.only(n, api.Node{Kind: n.Kind})
		j.tokens++
		j.must(names(n, i-1))
		return j.inner(i, i-1, true, j.opens(within))
	case api.PCmp, api.PHas:
		j.must(names(n))
		j.test(n)
		return i
	}
	j.wrong = true
	return 0
}

func (j *judge) inner(above, i int, isLast bool, within int) (first int) {
	if i >= 0 && bracketed(j.nodes[above].Kind, j.nodes[i].Kind, isLast) {
		j.tokens += 2
		within = j.opens(within)
	}
	return j.cond(i, within)
}

func (j *judge) test(n api.Node) {
	j.must(n.S != "not")
	j.name(n.S)
	j.tokens += 2
	if n.Kind == api.PHas {
		j.only(n, api.Node{Kind: n.Kind, S: n.S, V: api.Value{Kind: api.Str, S: n.V.S}})
		j.must(len(n.V.S) <= 64)
		return
	}
	j.must(1 <= n.N && n.N <= 6)
	want := api.Node{Kind: n.Kind, S: n.S, N: n.N, V: api.Value{Kind: n.V.Kind}}
	switch n.V.Kind {
	case api.Int:
		want.V.N = n.V.N
	case api.Str:
		want.V.S = n.V.S
		j.must(len(n.V.S) <= 64)
	case api.Bool:
		want.V.N = n.V.N & 1
	default:
		j.wrong = true
	}
	j.only(n, want)
}

// bracketed is the table's rule: whether a condition stands between brackets below another.
func bracketed(above, kind int, isLast bool) bool {
	switch {
	case above == api.PNot:
		return kind == api.POr || kind == api.PAnd
	case above == api.PAnd && kind == api.POr:
		return true
	}
	return isLast && kind == above && kind != api.PNot
}

// tell is the text of the node i, by the table.
func tell(nodes []api.Node, i int) string {
	n := nodes[i]
	ahead := ""
	if n.Kind != api.QFetch && n.Kind <= api.QUnion {
		ahead = tell(nodes, n.L[0]) + " | "
	}
	switch n.Kind {
	case api.QFetch:
		if n.From != 0 || n.To != 1099511627775 {
			return fmt.Sprint("fetch ", n.S, " from ", n.From, " to ", n.To)
		}
		return "fetch " + n.S
	case api.QWhere:
		return ahead + "where " + tell(nodes, n.L[1])
	case api.QKeep:
		return ahead + "keep " + strings.Join(n.Names, ", ")
	case api.QAlign:
		return ahead + fmt.Sprint("align ", n.N)
	case api.QGroup:
		if len(n.Names) > 0 {
			return ahead + "group " + strings.Join(n.Names, ", ") + " : " + tellAggs(n.Aggs)
		}
		return ahead + "group : " + tellAggs(n.Aggs)
	case api.QTop:
		return ahead + fmt.Sprint("top ", n.N, " by ", n.S)
	case api.QJoin:
		return ahead + "join (" + tell(nodes, n.L[1]) + ")"
	case api.QUnion:
		return ahead + "union (" + tell(nodes, n.L[1]) + ")"
	}
	return tellCond(nodes, n)
}

func tellAggs(l []api.Agg) string {
	s := ""
	for k, a := range l {
		if k > 0 {
			s += ", "
		}
		s += strings.Fields("count sum min max mean merge")[a.Kind-1]
		if a.Kind != api.Count {
			s += " " + a.Col
		}
	}
	return s
}

func tellCond(nodes []api.Node, n api.Node) string {
	below := func(k int) string {
		s := tell(nodes, n.L[k])
		if bracketed(n.Kind, nodes[n.L[k]].Kind, k == len(n.L)-1) {
			return "(" + s + ")"
		}
		return s
	}
	switch n.Kind {
	case api.POr:
		return below(0) + " or " + below(1)
	case api.PAnd:
		return below(0) + " and " + below(1)
	case api.PNot:
		return "not " + below(0)
	case api.PHas:
		return n.S + " has " + quoted(n.V.S)
	}
	return n.S + " " + strings.Fields("= != < <= > >=")[n.N-1] + " " + tellValue(n.V)
}

func tellValue(v api.Value) string {
	switch v.Kind {
	case api.Str:
		return quoted(v.S)
	case api.Bool:
		return []string{"false", "true"}[v.N]
	}
	return fmt.Sprint(v.N)
}

func quoted(s string) string {
	return `"` + strings.NewReplacer(`"`, `\"`, `\`, `\\`).Replace(s) + `"`
}
