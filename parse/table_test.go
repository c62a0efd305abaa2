package parse_test

import (
	"math/rand"
	"slices"
	"strings"
	"testing"

	"catchment/api"
	"catchment/parse"
)

// grammar is the chapter's table: `what is`, with / between choices. In quotes stand words and signs; what may be there or not, or several times, has a line of its own with an empty choice. Of a not that is read, and is open no more, `end` is left.
const grammar = `
query    'fetch' name range steps
range    'from' number 'to' number /
steps    '|' step steps /
step     'where' cond / 'keep' names / 'align' number / 'group' ':' aggs / 'group' names ':' aggs / 'top' number 'by' name / 'join' '(' query ')' / 'union' '(' query ')'
names    name morenames
morenames ',' name morenames /
aggs     agg moreaggs
moreaggs ',' agg moreaggs /
agg      'count' / 'sum' name / 'min' name / 'max' name / 'mean' name / 'merge' name
cond     both ors
ors      'or' both ors /
both     not ands
ands     'and' not ands /
not      'not' not end / '(' cond ')' / name how value / name 'has' text
how      '=' / '!=' / '<' / '<=' / '>' / '>='
value    number / text / 'true' / 'false'
`

// nodeWords are those words of which each one is a node.
var nodeWords = strings.Fields("fetch where keep align group top join union or and not = != < <= > >= has")

// table is the grammar, choice by choice.
var table = readTable()

func readTable() map[string][][]string {
	t := map[string][][]string{}
	for _, line := range strings.Split(strings.TrimSpace(grammar), "\n") {
		what, is, _ := strings.Cut(line, " ")
		for _, choice := range strings.Split(is, "/") {
			t[what] = append(t[what], strings.Fields(choice))
		}
	}
	return t
}

// open are all the ways in which what is still to come can begin: each with a word, a sign or a kind of token at its front, or empty.
func open(toCome []string) [][]string {
	if len(toCome) == 0 {
		return [][]string{nil}
	}
	if toCome[0] == "end" {
		return open(toCome[1:])
	}
	choices, known := table[toCome[0]]
	if !known {
		return [][]string{toCome}
	}
	var all [][]string
	for _, c := range choices {
		all = append(all, open(slices.Concat(c, toCome[1:]))...)
	}
	return all
}

// counts tells whether a token counts as what stands at the front.
func counts(t api.Token, front string) bool {
	switch front {
	case "name":
		return t.Kind == api.TokWord
	case "number":
		return t.Kind == api.TokNumber
	case "text":
		return t.Kind == api.TokText
	}
	return isSaid(front) && (t.Kind == api.TokWord || t.Kind == api.TokSign) && "'"+t.S+"'" == front
}

func isSaid(front string) bool { return strings.HasPrefix(front, "'") }

// behind are the ways on which a token can be next, with it at their front. Where one takes it as a word of the query, the others do not count.
func behind(ways [][]string, t api.Token) [][]string {
	var said, other [][]string
	for _, w := range ways {
		if len(w) == 0 || !counts(t, w[0]) {
			continue
		}
		if isSaid(w[0]) {
			said = append(said, w)
		} else {
			other = append(other, w)
		}
	}
	if said != nil {
		return said
	}
	return other
}

// isOpen is how many brackets and nots are open: each waits for its end.
func isOpen(toCome []string) int {
	n := 0
	for _, x := range toCome {
		if x == "')'" || x == "end" {
			n++
		}
	}
	return n
}

// byTable is the document's rule for Parse and Cond, word by word: all ways are gone at a time. It tells how many nodes there are, or the error.
func byTable(what string, l []api.Token) (nodes, at int, e api.Errno) {
	if len(l) > 1024 {
		return 0, 0, api.ErrLong
	}
	ways := [][]string{{what}}
	for k, t := range l {
		var began [][]string
		for _, w := range ways {
			began = append(began, open(w)...)
		}
		ways = behind(began, t)
		if len(ways) == 0 {
			return 0, k, api.ErrParse
		}
		front := ways[0][0]
		// Its own end is among those to come already.
		if (front == "'('" || front == "'not'") && isOpen(ways[0])-1 >= 16 {
			return 0, k, api.ErrLong
		}
		if isSaid(front) && slices.Contains(nodeWords, strings.Trim(front, "'")) {
			nodes++
		}
		for i := range ways {
			ways[i] = ways[i][1:]
		}
	}
	if !slices.ContainsFunc(ways, mayEnd) {
		return 0, len(l), api.ErrParse
	}
	if nodes > 128 {
		return 0, 0, api.ErrLong
	}
	return nodes, 0, api.OK
}

func mayEnd(toCome []string) bool {
	return slices.ContainsFunc(open(toCome), func(w []string) bool { return len(w) == 0 })
}

func sameAsTable(t *testing.T, l []api.Token) {
	t.Helper()
	for what, read := range map[string]func([]api.Token) (api.Query, int, api.Errno){"query": parse.Parse, "cond": parse.Cond} {
		q, at, e := read(l)
		nodes, wantAt, wantE := byTable(what, l)
		if e != wantE || at != wantAt || len(q.N) != nodes {
			t.Fatalf("the %s of %v has %d nodes, %d, %d, not %d, %d, %d", what, l, len(q.N), at, e, nodes, wantAt, wantE)
		}
		if e == api.OK {
			wantNamedOnce(t, q)
		}
	}
}

// words are all that the language has, and names and values.
func words() []api.Token {
	var l []api.Token
	for _, s := range strings.Fields("fetch from to where keep align group top by join union and or not has true false count sum min max mean merge host n") {
		l = append(l, word(s))
	}
	for _, s := range strings.Fields("| , ( ) : = != < <= > >=") {
		l = append(l, sign(s))
	}
	return append(l, number(0), number(-7), number(60), text("a"), text("fetch"), text(""))
}

// odd are tokens that Lex does not cut.
func odd() []api.Token {
	var l []api.Token
	for _, t := range words() {
		for _, kind := range []int{api.TokWord, api.TokSign, api.TokNumber, api.TokText, 0, 5, -1} {
			t.Kind = kind
			l = append(l, t)
		}
	}
	return append(l, word(""), sign(""), word("F"), sign("=="), word(strings.Repeat("x", 100)), text(strings.Repeat("x", 100)), api.Token{})
}

func TestP12_1ByTableTwoTokens(t *testing.T) {
	l := append(words(), odd()...)
	sameAsTable(t, nil)
	for _, a := range l {
		sameAsTable(t, []api.Token{a})
		for _, b := range l {
			sameAsTable(t, []api.Token{a, b})
		}
	}
}

// walk lays tokens at random, most of them such as may stand there.
func walk(r *rand.Rand, what string, some []api.Token, n int) []api.Token {
	var l []api.Token
	ways := [][]string{{what}}
	for range n {
		var began [][]string
		for _, w := range ways {
			began = append(began, open(w)...)
		}
		x := some[r.Intn(len(some))]
		for len(behind(began, x)) == 0 && r.Intn(100) > 0 {
			x = some[r.Intn(len(some))]
		}
		l = append(l, x)
		ways = behind(began, x)
		for i := range ways {
			ways[i] = ways[i][1:]
		}
	}
	return l
}

func TestP12_1ByTable(t *testing.T) {
	r := rand.New(rand.NewSource(12))
	for k := range 6000 {
		some := words()
		if k%3 == 0 {
			some = append(some, odd()...)
		}
		what := []string{"query", "cond"}[k%2]
		l := walk(r, what, some, r.Intn(60))
		for n := range len(l) + 1 {
			if n == len(l) || r.Intn(8) == 0 {
				sameAsTable(t, l[:n])
			}
		}
	}
}

// Nests and long queries, with faults here and there.
func TestP12_1ByTableDeep(t *testing.T) {
	r := rand.New(rand.NewSource(121))
	tokens := words()
	pieces := []string{"(", "(", "(", "not", "not", ")", ")", "n = 1", "n = 1 )", "and", "or", "and (", "or not", "join ( fetch n", "| union ( fetch n", "| where", "| where not", "| keep n"}
	for k := range 20000 {
		s := []string{"fetch n | where ", ""}[k%2]
		for range r.Intn(60) {
			s += pieces[r.Intn(len(pieces))] + " "
		}
		l := cut(t, s)
		if len(l) > 0 && k%5 == 0 {
			l[r.Intn(len(l))] = tokens[r.Intn(len(tokens))]
		}
		sameAsTable(t, l)
	}
}

func TestP12_1ByTableSpoilt(t *testing.T) {
	r := rand.New(rand.NewSource(1212))
	others := append(words(), odd()...)
	for range 6000 {
		l := (&maker{r: r}).makeQuery(3).tokens
		for range 1 + r.Intn(2) {
			at := r.Intn(len(l))
			switch x := others[r.Intn(len(others))]; r.Intn(3) {
			case 0:
				l[at] = x
			case 1:
				l = slices.Insert(l, at, x)
			default:
				l = slices.Delete(l, at, min(at+1, len(l)))
			}
			if len(l) == 0 {
				break
			}
		}
		sameAsTable(t, l)
	}
}
