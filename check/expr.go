package check

import (
	"strings"

	"tripwire/api"
	"tripwire/ast"
	"tripwire/fault"
	"tripwire/schema"
)

// Expr is an expression's node and type.
func Expr(l []Var, e ast.Expr) (Node, int, api.Errno) {
	if !ast.RightExpr(e) {
		return Node{}, 0, api.ErrArg
	}
	var n Node
	var kind int
	x := fault.Catch(func() { n, kind = found(l, e) })
	return n, kind, x.Code
}

// found is the node and the type of a right expression. It stops at the first thing that is wrong.
func found(l []Var, e ast.Expr) (Node, int) {
	switch e.Op {
	case "value":
		return Node{Op: "value", V: api.Value{Kind: e.V.Kind, N: e.V.N, S: strings.Clone(e.V.S)}}, e.V.Kind
	case "column":
		v, c := place(l, e)
		return Node{Op: "column", Var: v, Col: c}, l[v].Cols[c].Type
	}
	n := Node{Op: strings.Clone(e.Op), Kids: make([]Node, len(e.Kids))}
	var types [2]int // that of a Kid that isn't there is NULL's, which agrees with all
	for i, kid := range e.Kids {
		n.Kids[i], types[i] = found(l, kid)
	}
	return n, typeOf(e.Op, types[0], types[1])
}

// place is the numbers of a column's variable, and of the column there.
func place(l []Var, e ast.Expr) (int, int) {
	v := owner(l, e)
	if v < 0 {
		fault.Check(api.ErrName)
	}
	c := schema.Find(l[v].Cols, e.Col)
	if c < 0 {
		fault.Check(api.ErrName)
	}
	return v, c
}

// owner is the number of the variable that a column must be of: -1, if there is none, or it can't be told.
func owner(l []Var, e ast.Expr) int {
	if e.Var != "" {
		return named(l, e.Var)
	}
	only := -1
	for i, v := range l {
		switch {
		case schema.Find(v.Cols, e.Col) < 0:
		case only >= 0:
			return -1
		default:
			only = i
		}
	}
	return only
}

// typeOf is the type of what an op makes of its Kids, which are of the types a and b.
func typeOf(op string, a, b int) int {
	switch op {
	case "null":
		return api.Bool
	case "not", "and", "or":
		return typed(both(a, b, api.Bool), api.Bool)
	case "neg", "-", "*":
		return typed(both(a, b, api.Int), api.Int)
	case "+":
		return typed(both(a, b, api.Int) || both(a, b, api.Text), max(a, b))
	}
	return typed(agree(a, b), api.Bool)
}

// typed is a type, if the Kids' types are as they must be for it.
func typed(right bool, kind int) int {
	if !right {
		fault.Check(api.ErrType)
	}
	return kind
}

func both(a, b, kind int) bool { return agree(a, kind) && agree(b, kind) }

func agree(a, b int) bool { return a == b || a == api.Null || b == api.Null }
