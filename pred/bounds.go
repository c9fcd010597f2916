package pred

import (
	"tripwire/api"
	"tripwire/check"
	"tripwire/index"
	"tripwire/value"
)

// testOf is the test that a node makes; false, if it makes none.
func testOf(n check.Node) (Test, bool) {
	switch len(n.Kids) {
	case 1:
		null := index.Bound{Has: true, Incl: true}
		return Test{Col: n.Kids[0].Col, Lo: null, Hi: null}, n.Op == "null" && isColumn(n.Kids[0])
	case 2:
		return compared(n.Op, n.Kids[0], n.Kids[1])
	}
	return Test{}, false
}

// compared is the test that a comparison of two nodes makes.
func compared(op string, a, b check.Node) (Test, bool) {
	if isColumn(b) {
		op, a, b = turned(op), b, a
	}
	lo, hi, ok := bounds(op, b.V)
	return Test{Col: a.Col, Lo: lo, Hi: hi}, ok && isColumn(a) && isKnown(b)
}

// isColumn tells whether a node is a column of the variable 0. One with Kids is none: layer 16 finds nothing that it could be.
func isColumn(n check.Node) bool { return n.Op == "column" && n.Var == 0 && len(n.Kids) == 0 }

// isKnown tells whether a node is a value other than NULL. The whole value is asked, as layer 16 does.
func isKnown(n check.Node) bool {
	return n.Op == "value" && n.V != (api.Value{}) && len(n.Kids) == 0
}

// turned is how b stands to a, if a stands so to b.
func turned(op string) string {
	switch op {
	case "<":
		return ">"
	case "<=":
		return ">="
	case ">":
		return "<"
	case ">=":
		return "<="
	}
	return op
}

// bounds is what all values that stand so to v lie between; false, if no two bounds tell that.
func bounds(op string, v api.Value) (lo, hi index.Bound, ok bool) {
	at, beside := index.Bound{Has: true, Incl: true, V: v}, index.Bound{Has: true, V: v}
	behindNull := index.Bound{Has: true} // NULL stands ahead of all others, but to nothing as a comparison asks
	switch op {
	case "=":
		return at, at, true
	case "<":
		return behindNull, beside, true
	case "<=":
		return behindNull, at, true
	case ">":
		return beside, index.Bound{}, true
	case ">=":
		return at, index.Bound{}, true
	}
	return index.Bound{}, index.Bound{}, false
}

// met tells whether a row meets a test.
func (t Test) met(row []api.Value) bool {
	if t.Col < 0 || t.Col >= len(row) {
		return false
	}
	v := row[t.Col]
	return lets(t.Lo, value.Order(v, t.Lo.V)) && lets(t.Hi, value.Order(t.Hi.V, v))
}

// lets tells whether a bound lets a value in, which stands so to it: 1 on its inner side, 0 at it, -1 on its outer one.
func lets(b index.Bound, place int) bool { return !b.Has || place > 0 || place == 0 && b.Incl }
