package check_test

import (
	"fmt"
	"regexp"
	"slices"
	"strconv"
	"strings"

	"tripwire/api"
	"tripwire/ast"
	"tripwire/check"
)

// Here the chapter's words are read anew: an expression's parts are laid one behind the other, from the left, what is
// deeper first, and are gone through with a stack; what each op makes of its Kids' types stands in a table.

// typesOf is the type that an op makes of each type, or, line by line, of each two types, from 0 on; a dot is ErrType.
func typesOf(op string) string {
	switch op {
	case "neg":
		return "2.2."
	case "not":
		return "11.."
	case "null":
		return "1111"
	case "+":
		return "0.23 .... 2.2. 3..3"
	case "-", "*":
		return "2.2. .... 2.2. ...."
	case "=", "<>", "<", "<=", ">", ">=":
		return "1111 11.. 1.1. 1..1"
	case "and", "or":
		return "11.. 11.. .... ...."
	}
	return ""
}

func laid(e ast.Expr, to []ast.Expr) []ast.Expr {
	for _, kid := range e.Kids {
		to = laid(kid, to)
	}
	return append(to, e)
}

// part is what stands on the stack.
type part struct {
	n    check.Node
	kind int
}

func told(l []check.Var, e ast.Expr) (check.Node, int, api.Errno) {
	if !ast.RightExpr(e) {
		return check.Node{}, 0, api.ErrArg
	}
	var stack []part
	for _, x := range laid(e, nil) {
		at := len(stack) - len(x.Kids)
		p, err := toldPart(l, x, stack[at:])
		if err != api.OK {
			return check.Node{}, 0, err
		}
		stack = append(stack[:at:at], p)
	}
	return stack[0].n, stack[0].kind, api.OK
}

func toldPart(l []check.Var, x ast.Expr, kids []part) (part, api.Errno) {
	n := check.Node{Op: x.Op}
	switch x.Op {
	case "value":
		n.V = x.V
		return part{n, x.V.Kind}, api.OK
	case "column":
		return toldColumn(l, x)
	}
	at := 0 // of the types' digit in the table
	for i, k := range kids {
		n.Kids = append(n.Kids, k.n)
		at = at*5*i + k.kind
	}
	c := typesOf(x.Op)[at]
	if c == '.' {
		return part{}, api.ErrType
	}
	return part{n, int(c - '0')}, api.OK
}

// toldColumn takes all variables that the column may be of, and there must be just one.
func toldColumn(l []check.Var, x ast.Expr) (part, api.Errno) {
	var found []part
	ahead := "," // the names of variables that stand ahead
	for i, v := range l {
		for j, c := range v.Cols {
			again := len(found) > 0 && found[len(found)-1].n.Var == i
			mine := x.Var == "" || x.Var == v.Name && !strings.Contains(ahead, ","+v.Name+",")
			if c.Name == x.Col && mine && !again {
				found = append(found, part{check.Node{Op: "column", Var: i, Col: j}, c.Type})
			}
		}
		ahead += v.Name + ","
	}
	if len(found) != 1 {
		return part{}, api.ErrName
	}
	return found[0], api.OK
}

// toldCond puts the Kids of an and in its place, till there is none.
func toldCond(l []check.Var, where []ast.Expr) ([]check.Node, api.Errno) {
	if len(where) != 1 {
		return nil, map[bool]api.Errno{true: api.OK, false: api.ErrArg}[len(where) == 0]
	}
	_, kind, err := told(l, where[0])
	if err == api.OK && kind > 1 {
		err = api.ErrType
	}
	if err != api.OK {
		return nil, err
	}
	isAnd := func(e ast.Expr) bool { return e.Op == "and" }
	list := slices.Clone(where)
	for at := slices.IndexFunc(list, isAnd); at >= 0; at = slices.IndexFunc(list, isAnd) {
		list = slices.Replace(list, at, at+1, list[at].Kids...)
	}
	var all []check.Node
	for _, e := range list {
		n, _, _ := told(l, e)
		all = append(all, n)
	}
	return all, api.OK
}

// Of a node with all that stands in it, told as Go's text, what is asked for is looked for in that text.

var columns = regexp.MustCompile(`Op:"column", V:api\.Value\{Kind:-?\d+, N:-?\d+, S:"(?:[^"\\]|\\.)*"\}, Var:(-?\d+)`)

var reckoned = regexp.MustCompile(`Op:"([-+*]|neg)"`)

func toldSafe(n check.Node) bool { return !reckoned.MatchString(fmt.Sprintf("%#v", n)) }

func toldUses(n check.Node) []int {
	var l []int
	for _, m := range columns.FindAllStringSubmatch(fmt.Sprintf("%#v", n), -1) {
		v, _ := strconv.Atoi(m[1])
		if !slices.Contains(l, v) {
			l = append(l, v)
		}
	}
	slices.Sort(l)
	return l
}
