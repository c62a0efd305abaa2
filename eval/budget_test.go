package eval_test

import (
	"math"
	"slices"
	"strconv"
	"testing"

	"catchment/api"
	"catchment/eval"
)

// wantFrom asks for ErrBudget with less, and for none with as much, or with more.
func wantFrom(t *testing.T, what string, q api.Query, inputs []api.Table, enough int) {
	t.Helper()
	for _, most := range []int{enough - 1, enough - 2, 0, -1, math.MinInt} {
		if most < enough {
			wantError(t, what+" with most "+strconv.Itoa(most), said(eval.Run(schemas(), q, some(), inputs, most)), api.ErrBudget)
		}
	}
	for _, most := range []int{enough, enough + 1, math.MaxInt} {
		if _, e := eval.Run(schemas(), q, some(), inputs, most); e != api.OK {
			t.Errorf("%s with most %d is %d", what, most, e)
		}
	}
}

// There are four rows of load, three of lat, none of wide.
func TestP19_1Budget(t *testing.T) {
	for s, enough := range map[string]int{
		"fetch load": 4, "fetch load from 2 to 5": 2, "fetch wide": 0, "fetch lat": 3,
		"fetch load | where n > 6": 4, "fetch load | keep n": 4, "fetch load | align 10": 4, "fetch load | top 1 by n": 4, "fetch load | group : count": 4,
		"fetch lat | union (fetch lat)": 6, "fetch load from 2 to 5 | keep time | union (fetch load from 2 to 2 | keep time)": 3,
		"fetch lat | keep host | join (fetch load)": 5, "fetch wide | keep time | join (fetch load)": 4,
		"fetch wide | where time > 2 | group time : count": 0, "fetch wide | union (fetch wide)": 0,
	} {
		wantFrom(t, s, parsed(t, s), nil, enough)
	}
	inputs := []api.Table{ints("k n", 1, 5, 1, 6, 1, 7), ints("k m", 1, 7, 1, 8), ints("k n"), ints("k n", 1, 9)}
	wantFrom(t, "an input", nodes(input(0)), inputs, 3)
	wantFrom(t, "an input of no rows", nodes(input(2)), inputs, 0)
	wantFrom(t, "a join", nodes(input(0), input(1), step(api.QJoin, 0, 1)), inputs, 6)
	wantFrom(t, "a join of no rows", nodes(input(1), input(2), step(api.QJoin, 0, 1)), inputs, 2)
	wantFrom(t, "a union", nodes(input(0), input(3), step(api.QUnion, 0, 1)), inputs, 4)
	wantFrom(t, "an input ahead of which are greater ones", nodes(input(3)), inputs, 1)
}

// A node counts wherever it stands, though none names it, and though little is left of it.
func TestP19_1BudgetOfEachNode(t *testing.T) {
	inputs := []api.Table{ints("k n", 1, 5, 1, 6, 1, 7), ints("k n", 2, 1)}
	one := func(below int) api.Node { return api.Node{Kind: api.QTop, L: []int{below}, N: 1, S: "n"} }
	wantFrom(t, "a great node that none names", nodes(input(0), input(1)), inputs, 3)
	wantFrom(t, "a great join that none names", nodes(input(0), keep(0, "k"), step(api.QJoin, 0, 1), input(1)), inputs, 9)
	wantFrom(t, "a great union of which little is left", nodes(input(0), input(0), step(api.QUnion, 0, 1), one(2), one(0)), inputs, 6)
	wantFrom(t, "a great node behind a small one", nodes(input(1), one(0), input(0), keep(1, "n")), inputs, 3)
}

// How great a table of db is does not count, but which rows were fetched.
func TestP19_1BudgetOfRowsAlone(t *testing.T) {
	wantFrom(t, "a fetch of one moment", parsed(t, "fetch load from 12 to 12"), nil, 1)
	wantFrom(t, "a fetch of no moment", parsed(t, "fetch load from 3 to 4"), nil, 0)
	wantFrom(t, "a fetch of one that is small", parsed(t, "fetch wide"), []api.Table{ints("n", 1, 2, 3)}, 0)
}

// A group of these has columns that may be, and parts that may not.
func tooManyParts() (api.Table, api.Node) {
	cols := numbered(9)
	return of(cols), grouped(0, nil, means(cols)...)
}

func TestP19_1GroupOfTooManyParts(t *testing.T) {
	none, g := tooManyParts()
	wantError(t, "a group of too many parts", said(eval.Run(nil, nodes(input(0), g), nil, []api.Table{none}, 0)), api.ErrType)
	// As many as may be, of an input and of a schema.
	eight := grouped(0, nil, means(none.Cols[:8])...)
	if got, e := eval.Run(nil, nodes(input(0), eight), nil, []api.Table{none}, 0); e != api.OK || len(got.Cols) != 8 || len(got.Rows) != 0 {
		t.Errorf("a group of eight means is %v, %d", got, e)
	}
	const most = "fetch wide | group time, ka, kb, kc, kd, va : mean time, mean ka, mean kb, mean kc, mean kd"
	if got, e := eval.Run(schemas(), parsed(t, most), nil, nil, 0); e != api.OK || len(got.Cols) != 11 {
		t.Errorf("%s is %v, %d", most, got, e)
	}
	wantError(t, "one more", said(eval.Run(schemas(), parsed(t, most+", count"), nil, nil, 0)), api.ErrType)
	// A part that is called as a name is.
	named := []api.Table{ints("p#0 n", 1, 2, 1, 3)}
	count, sum := api.Agg{Kind: api.Count}, api.Agg{Kind: api.Sum, Col: "n"}
	wantError(t, "a group by p#0", said(eval.Run(nil, nodes(input(0), grouped(0, []string{"p#0"}, count)), nil, named, 9)), api.ErrType)
	wantTable(t, "a group of p#0", said(eval.Run(nil, nodes(input(0), grouped(0, nil, api.Agg{Kind: api.Sum, Col: "p#0"})), nil, named, 9)), ints("sum_p#0", 2))
	named[0].Cols[0].Name = "p#2"
	wantTable(t, "a group by p#2", said(eval.Run(nil, nodes(input(0), grouped(0, []string{"p#2"}, count, sum)), nil, named, 9)), ints("p#2 count sum_n", 1, 2, 5))
}

// The first error is told, node by node.
func TestP19_1FirstErrorOfRows(t *testing.T) {
	none, g := tooManyParts()
	great := ints("n", 1, 2, 3)
	behind, ahead := nodes(input(0), g, input(1)), nodes(input(0), input(1), g)
	for _, c := range []struct {
		most          int
		behind, ahead api.Errno
	}{{3, api.ErrType, api.ErrType}, {2, api.ErrType, api.ErrBudget}, {0, api.ErrType, api.ErrBudget}, {-1, api.ErrBudget, api.ErrBudget}} {
		what := "with most " + strconv.Itoa(c.most)
		wantError(t, "a great node behind a group of too many parts, "+what, said(eval.Run(nil, behind, nil, []api.Table{none, great}, c.most)), c.behind)
		wantError(t, "a great node ahead of it, "+what, said(eval.Run(nil, ahead, nil, []api.Table{none, great}, c.most)), c.ahead)
	}
	none.Rows = append(none.Rows, slices.Repeat([]api.Value{intOf(1)}, 9), slices.Repeat([]api.Value{intOf(2)}, 9))
	wantError(t, "the rows ahead of their group", said(eval.Run(nil, nodes(input(0), g), nil, []api.Table{none}, 1)), api.ErrBudget)
	wantError(t, "a group of rows that are not too many", said(eval.Run(nil, nodes(input(0), g), nil, []api.Table{none}, 2)), api.ErrType)
	// What check.Types has against a node behind is told ahead of what the rows of one ahead bring about.
	wantError(t, "an error of types", said(eval.Run(nil, nodes(input(0), g, keep(0, "x")), nil, []api.Table{none}, 0)), api.ErrType)
	wantError(t, "an error of types", said(eval.Run(nil, nodes(input(0), g, fetch("x")), nil, []api.Table{none}, 0)), api.ErrSchema)
}

// A schema that may not be has a table without rows all the same; a step that refuses such columns tells its own error.
func TestP19_1OddSchemas(t *testing.T) {
	l := []api.Schema{{Name: "s", Keys: colsOf("k:1 k:1"), Vals: colsOf("n:1")}}
	wantTable(t, "a fetch", said(eval.Run(l, nodes(fetch("s")), nil, nil, 0)), ints("time k k n"))
	wantError(t, "a fetch with most -1", said(eval.Run(l, nodes(fetch("s")), nil, nil, -1)), api.ErrBudget)
	for what, n := range map[string]api.Node{
		"a keep": keep(0, "n"), "an align": {Kind: api.QAlign, L: []int{0}, N: 5}, "a group": grouped(0, []string{"n"}, api.Agg{Kind: api.Count}),
		"a top": {Kind: api.QTop, L: []int{0}, N: 5, S: "n"}, "a join": step(api.QJoin, 0, 0), "a union": step(api.QUnion, 0, 0),
	} {
		wantError(t, what, said(eval.Run(l, nodes(fetch("s"), n), nil, nil, 0)), api.ErrCols)
	}
	wantError(t, "a where", said(eval.Run(l, parsed(t, "fetch s | where n > 5"), nil, nil, 0)), api.ErrCols)
}
