package expr

import (
	"tripwire/api"
	"tripwire/check"
	"tripwire/fault"
	"tripwire/value"
)

// scope is what a node is reckoned over: rows, and how many nodes may still stand within one another, so that it ends
// even where a node stands within itself.
type scope struct {
	rows [][]api.Value
	left int
}

func over(rows [][]api.Value) scope { return scope{rows: rows, left: deepest} }

// eval is a node's value. It gives up at the first error. How many Kids there are is asked ahead of what they are: without
// the Kids that it needs an op has nothing that it could be of.
func (s scope) eval(n check.Node) api.Value {
	if s.left == 0 || len(n.Kids) != kids(n.Op) {
		fault.Check(api.ErrArg)
	}
	s.left--
	switch n.Op {
	case "value":
		return n.V
	case "column":
		return s.column(n.Var, n.Col)
	case "and":
		return s.both(n.Kids, api.False, value.And)
	case "or":
		return s.both(n.Kids, api.True, value.Or)
	}
	a := s.eval(n.Kids[0])
	if len(n.Kids) == 1 {
		return one(n.Op, a)
	}
	return two(n.Op, a, s.eval(n.Kids[1]))
}

// kids is how many Kids an op needs; -1, if it isn't one.
func kids(op string) int {
	switch op {
	case "value", "column":
		return 0
	case "neg", "not", "null":
		return 1
	case "+", "-", "*", "=", "<>", "<", "<=", ">", ">=", "and", "or":
		return 2
	}
	return -1
}

func (s scope) column(row, col int) api.Value {
	if row < 0 || row >= len(s.rows) || col < 0 || col >= len(s.rows[row]) {
		fault.Check(api.ErrArg)
	}
	return s.rows[row][col]
}

// both joins the truths of two Kids. If the first one's alone settles it, the second one isn't looked at, so that it
// can't fail.
func (s scope) both(l []check.Node, settles int, join func(a, b int) int) api.Value {
	a := s.truth(l[0])
	if a == settles {
		return value.Of(a)
	}
	return value.Of(join(a, s.truth(l[1])))
}

func (s scope) truth(n check.Node) int { return must(value.Truth(s.eval(n))) }

// one is what an op makes of its only Kid's value.
func one(op string, a api.Value) api.Value {
	switch op {
	case "neg":
		return must(value.Reckon("-", api.Value{Kind: api.Int}, a))
	case "not":
		return value.Of(value.Not(must(value.Truth(a))))
	}
	return null(a)
}

// null asks the whole value: one that isn't right is no NULL, whatever its Kind says.
func null(a api.Value) api.Value {
	if a == (api.Value{}) {
		return value.Of(api.True)
	}
	return value.Of(api.False)
}

// two is what an op makes of both its Kids' values.
func two(op string, a, b api.Value) api.Value {
	switch op {
	case "+", "-", "*":
		return must(value.Reckon(op, a, b))
	}
	return value.Of(must(value.Holds(op, a, b)))
}

// must is what a function answered; it gives up with its error.
func must[T any](v T, e api.Errno) T {
	fault.Check(e)
	return v
}
