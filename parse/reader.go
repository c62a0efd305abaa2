package parse

import "catchment/api"

// reader takes tokens from the left and lays nodes. At the first token that can not stand where it stands it panics with a fault: so no step has to hand on the fault of another, and the nodes that were laid till then are lost, as they must be.
type reader struct {
	tokens []api.Token
	next   int // the number of the token that is to be read
	open   int // how many brackets and nots are
	nodes  []api.Node
}

// fault is the number of a token, and what is wrong with it.
type fault struct {
	at   int
	code api.Errno
}

// told is what a call panicked with, or OK if it did not. No call may panic, so that a fault that is none of the reader's is an answer too.
func told(cause any) (at int, e api.Errno) {
	switch f := cause.(type) {
	case nil:
		return 0, api.OK
	case fault:
		return f.at, f.code
	}
	return 0, api.ErrParse
}

func (r *reader) fail(e api.Errno) { panic(fault{at: r.next, code: e}) }

// here is the next token. Behind the last one it is a token of no kind, which can stand nowhere.
func (r *reader) here() api.Token {
	if r.next < len(r.tokens) {
		return r.tokens[r.next]
	}
	return api.Token{}
}

// end demands that nothing is left. How many nodes there are is asked last: whatever else is wrong is told ahead of it.
func (r *reader) end() {
	if r.next < len(r.tokens) {
		r.fail(api.ErrParse)
	}
	if len(r.nodes) > api.MaxNodes {
		panic(fault{at: 0, code: api.ErrLong})
	}
}

// lay lays a node behind the others; the place is what those above name it by.
func (r *reader) lay(n api.Node) int {
	r.nodes = append(r.nodes, n)
	return len(r.nodes) - 1
}

// stands tells whether a word or sign of the language is next: words and signs count by what they say, whichever of the two they are.
func (r *reader) stands(word string) bool {
	t := r.here()
	return (t.Kind == api.TokWord || t.Kind == api.TokSign) && t.S == word
}

// skip goes behind a word or sign, if it is next.
func (r *reader) skip(word string) bool {
	if !r.stands(word) {
		return false
	}
	r.next++
	return true
}

func (r *reader) want(word string) {
	if !r.skip(word) {
		r.fail(api.ErrParse)
	}
}

// oneOf is which of these words is next, counted from 0.
func (r *reader) oneOf(words ...string) int {
	for k, w := range words {
		if r.skip(w) {
			return k
		}
	}
	r.fail(api.ErrParse)
	return 0
}

// enter goes behind a bracket or a not, if it is next, which is open till leave.
func (r *reader) enter(word string) bool {
	if !r.stands(word) {
		return false
	}
	if r.open >= api.MaxDepth {
		r.fail(api.ErrLong)
	}
	r.open++
	r.next++
	return true
}

func (r *reader) leave() { r.open-- }

func (r *reader) take(kind int) api.Token {
	t := r.here()
	if t.Kind != kind {
		r.fail(api.ErrParse)
	}
	r.next++
	return t
}

func (r *reader) name() string { return r.take(api.TokWord).S }

func (r *reader) number() int { return r.take(api.TokNumber).N }

func (r *reader) text() api.Value {
	return api.Value{Kind: api.Str, S: r.take(api.TokText).S}
}

// list reads one thing at least, and as many more as commas stand between.
func list[T any](r *reader, one func() T) []T {
	l := []T{one()}
	for r.skip(",") {
		l = append(l, one())
	}
	return l
}

// inBrackets reads what stands between ( and ).
func (r *reader) inBrackets(inner func() int) int {
	if !r.enter("(") {
		r.fail(api.ErrParse)
	}
	i := inner()
	r.want(")")
	r.leave()
	return i
}
