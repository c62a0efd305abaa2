package parse

import "catchment/api"

func (r *reader) cond() int { return r.chain("or", api.POr, r.both) }

func (r *reader) both() int { return r.chain("and", api.PAnd, r.not) }

// chain lays a node as soon as its second part is read, so that of several the first two go together first.
func (r *reader) chain(word string, kind int, part func() int) int {
	i := part()
	for r.skip(word) {
		i = r.lay(api.Node{Kind: kind, L: []int{i, part()}})
	}
	return i
}

// not asks for the words first: where one of them may stand, it is no name.
func (r *reader) not() int {
	if r.enter("not") {
		i := r.not()
		r.leave()
		return r.lay(api.Node{Kind: api.PNot, L: []int{i}})
	}
	if r.stands("(") {
		return r.inBrackets(r.cond)
	}
	return r.lay(r.test())
}

func (r *reader) test() api.Node {
	name := r.name()
	if r.skip("has") {
		return api.Node{Kind: api.PHas, S: name, V: r.text()}
	}
	how := r.how()
	return api.Node{Kind: api.PCmp, S: name, N: how, V: r.value()}
}

// how leans on the comparisons' numbers: they are those of their signs, in this order.
func (r *reader) how() int { return api.Eq + r.oneOf("=", "!=", "<", "<=", ">", ">=") }

func (r *reader) value() api.Value {
	switch r.here().Kind {
	case api.TokNumber:
		return api.Value{Kind: api.Int, N: r.number()}
	case api.TokText:
		return r.text()
	}
	return api.Value{Kind: api.Bool, N: r.oneOf("false", "true")}
}
