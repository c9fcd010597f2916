package pred

import (
	"slices"
	"strings"

	"tripwire/api"
	"tripwire/check"
)

// deepest is how many nodes may stand within one another: the document promises nothing beyond it.
const deepest = 1 << 16

// copied is the same condition, with memory of its own, even for its texts.
func (c Cond) copied() Cond {
	var own Cond
	for _, t := range c.Tests {
		t.Lo.V, t.Hi.V = ownValue(t.Lo.V), ownValue(t.Hi.V)
		own.Tests = append(own.Tests, t)
	}
	for _, n := range c.Rest {
		own.Rest = append(own.Rest, ownNode(n))
	}
	return own
}

func ownValue(v api.Value) api.Value {
	v.S = strings.Clone(v.S)
	return v
}

// ownNode is a copy of a node. One that is too deep becomes one that is true of no row, so that copying ends even where a node stands within itself.
func ownNode(n check.Node) check.Node {
	if !shallow(n, deepest) {
		return check.Node{}
	}
	return cloned(n)
}

// shallow tells whether no more than so many nodes stand within one another.
func shallow(n check.Node, many int) bool {
	return many > 0 && !slices.ContainsFunc(n.Kids, func(kid check.Node) bool { return !shallow(kid, many-1) })
}

func cloned(n check.Node) check.Node {
	own := check.Node{Op: strings.Clone(n.Op), V: ownValue(n.V), Var: n.Var, Col: n.Col}
	for _, kid := range n.Kids {
		own.Kids = append(own.Kids, cloned(kid))
	}
	return own
}
