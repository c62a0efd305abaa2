package print

import (
	"strconv"

	"catchment/api"
	"catchment/lex"
	"catchment/value"
)

// The words stand at their kinds' numbers.
var (
	kindWords = [...]string{
		api.QWhere: "where", api.QKeep: "keep", api.QAlign: "align", api.QGroup: "group", api.QTop: "top", api.QJoin: "join", api.QUnion: "union",
		api.PAnd: "and", api.POr: "or",
	}
	howWords = [...]string{api.Eq: "=", api.Ne: "!=", api.Lt: "<", api.Le: "<=", api.Gt: ">", api.Ge: ">="}
	aggWords = [...]string{api.Count: "count", api.Sum: "sum", api.Least: "min", api.Most: "max", api.Mean: "mean", api.Merge: "merge"}
)

// writer lays the words of nodes that are a tree. If these are no query's, then what it lays is none either, or another one.
type writer struct {
	nodes []api.Node
	words []string
}

func wordsOf(nodes []api.Node, i int) []string {
	w := writer{nodes: nodes}
	w.node(i)
	return w.words
}

func (w *writer) say(words ...string) { w.words = append(w.words, words...) }

func (w *writer) node(i int) {
	switch n := w.nodes[i]; n.Kind {
	case api.QFetch:
		w.fetch(n)
	case api.PAnd, api.POr, api.PNot, api.PCmp, api.PHas:
		w.cond(n)
	default:
		w.step(n)
	}
}

func (w *writer) fetch(n api.Node) {
	w.say("fetch", n.S)
	if n.From != 0 || n.To != api.MaxTime-1 {
		w.say("from", strconv.Itoa(n.From), "to", strconv.Itoa(n.To))
	}
}

func (w *writer) step(n api.Node) {
	w.node(n.L[0])
	w.say("|", kindWords[n.Kind])
	switch n.Kind {
	case api.QWhere:
		w.node(n.L[1])
	case api.QKeep:
		w.names(n.Names)
	case api.QAlign:
		w.say(strconv.Itoa(n.N))
	case api.QGroup:
		w.names(n.Names)
		w.say(":")
		w.aggs(n.Aggs)
	case api.QTop:
		w.say(strconv.Itoa(n.N), "by", n.S)
	case api.QJoin, api.QUnion:
		w.inBrackets(n.L[1])
	}
}

func (w *writer) names(l []string) {
	w.list(len(l), func(k int) { w.say(l[k]) })
}

func (w *writer) aggs(l []api.Agg) {
	w.list(len(l), func(k int) {
		w.say(aggWord(l[k].Kind))
		if l[k].Kind != api.Count {
			w.say(l[k].Col)
		}
	})
}

func (w *writer) list(n int, lay func(k int)) {
	for k := range n {
		if k > 0 {
			w.say(",")
		}
		lay(k)
	}
}

func (w *writer) cond(n api.Node) {
	switch n.Kind {
	case api.PAnd, api.POr:
		w.bound(n.L[0], binds(n.Kind))
		w.say(kindWords[n.Kind])
		// Without brackets a second one of the same kind would be read as a third part behind the first two.
		w.bound(n.L[1], binds(n.Kind)+1)
	case api.PNot:
		w.say("not")
		w.bound(n.L[0], binds(api.PNot))
	case api.PCmp:
		w.say(n.S, howWord(n.N), value.Text(n.V))
	case api.PHas:
		w.say(n.S, "has", lex.Quote(n.V.S))
	}
}

// bound lays a node in brackets, if it does not bind as much as it has to where it stands.
func (w *writer) bound(i, least int) {
	if binds(w.nodes[i].Kind) < least {
		w.inBrackets(i)
		return
	}
	w.node(i)
}

func (w *writer) inBrackets(i int) {
	w.say("(")
	w.node(i)
	w.say(")")
}

func binds(kind int) int {
	switch kind {
	case api.POr:
		return 1
	case api.PAnd:
		return 2
	}
	return 3
}

// howWord is empty of what is no comparison, and so no token.
func howWord(how int) string {
	if how < 0 || how >= len(howWords) {
		return ""
	}
	return howWords[how]
}

func aggWord(kind int) string {
	if kind < 0 || kind >= len(aggWords) {
		return ""
	}
	return aggWords[kind]
}

// text joins words: a blank stands between any two, but at a bracket's inner side and ahead of a comma.
func text(words []string) (string, api.Errno) {
	var b []byte
	for k, s := range words {
		if k > 0 && words[k-1] != "(" && s != ")" && s != "," {
			b = append(b, ' ')
		}
		b = append(b, s...)
	}
	if len(b) > api.MaxQuery {
		return "", api.ErrLong
	}
	return string(b), api.OK
}
