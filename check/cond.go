package check

import (
	"slices"

	"tripwire/api"
	"tripwire/ast"
)

// deepest is how many nodes may stand within one another: the document promises nothing beyond it.
const deepest = 1 << 16

// Cond is what is asked, taken apart.
func Cond(l []Var, where []ast.Expr) ([]Node, api.Errno) {
	switch {
	case len(where) == 0:
		return nil, api.OK
	case len(where) > 1:
		return nil, api.ErrArg
	}
	n, kind, e := Expr(l, where[0])
	switch {
	case e != api.OK:
		return nil, e
	case !agree(kind, api.Bool):
		return nil, api.ErrType
	}
	return apart(n, nil), api.OK
}

// apart puts what stands between the outermost ands of a node behind others.
func apart(n Node, to []Node) []Node {
	if n.Op != "and" {
		return append(to, n)
	}
	for _, kid := range n.Kids {
		to = apart(kid, to)
	}
	return to
}

// Safe tells whether a node never fails.
func Safe(n Node) bool {
	return through(n, deepest, func(n Node) bool { return !reckons(n.Op) })
}

// reckons tells whether an op makes a value that may be too great.
func reckons(op string) bool { return op == "+" || op == "-" || op == "*" || op == "neg" }

// Uses is the variables that stand in a node.
func Uses(n Node) []int {
	var l []int
	through(n, deepest, func(n Node) bool {
		if n.Op == "column" {
			l = append(l, n.Var)
		}
		return true
	})
	slices.Sort(l)
	return slices.Compact(l)
}

// through hands on a node and all that stand in it while see answers true, and tells whether it always did. It goes only
// so deep, and stops there for good, so that it ends even where a node stands within itself.
func through(n Node, depth int, see func(Node) bool) bool {
	if depth == 0 || !see(n) {
		return false
	}
	for _, kid := range n.Kids {
		if !through(kid, depth-1, see) {
			return false
		}
	}
	return true
}
