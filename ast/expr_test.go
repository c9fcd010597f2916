package ast_test

import (
	"math"
	"strings"
	"testing"

	"tripwire/api"
	"tripwire/ast"
)

// known is an Op with the number of its Kids, and its text, in which x and y stand for those of its Kids.
type known struct {
	name string
	kids int
	text string
}

func ops() []known {
	return []known{
		{"value", 0, "7"}, {"column", 0, "c"},
		{"neg", 1, "(- x)"}, {"not", 1, "(NOT x)"}, {"null", 1, "(x IS NULL)"},
		{"+", 2, "(x + y)"}, {"-", 2, "(x - y)"}, {"*", 2, "(x * y)"},
		{"=", 2, "(x = y)"}, {"<>", 2, "(x <> y)"}, {"<", 2, "(x < y)"}, {"<=", 2, "(x <= y)"}, {">", 2, "(x > y)"}, {">=", 2, "(x >= y)"},
		{"and", 2, "(x AND y)"}, {"or", 2, "(x OR y)"},
	}
}

// made is an expression of an Op, with the fields that are its own, and any Kids.
func made(name string, kids ...ast.Expr) ast.Expr {
	e := op(name, kids...)
	switch name {
	case "value":
		e.V = api.Value{Kind: 2, N: 7}
	case "column":
		e.Col = "c"
	}
	return e
}

func TestOpsByTheirKids(t *testing.T) {
	kids := exprs(col("x"), col("y"), col("z"), num(1))
	for _, k := range ops() {
		for n := range 5 {
			if n == k.kids {
				wantExpr(t, made(k.name, kids[:n]...), k.text)
				continue
			}
			wantWrongExpr(t, made(k.name, kids[:n]...))
		}
	}
	wantExpr(t, ast.Expr{Op: "value", Kids: []ast.Expr{}}, "NULL")
	wantExpr(t, ast.Expr{Op: "column", Col: "a", Kids: []ast.Expr{}}, "a")
}

// Each Op within each other, at each place, with parentheses about all but values and columns.
func TestOpsWithinOthers(t *testing.T) {
	for _, k := range ops() {
		for _, inner := range ops() {
			for at := range k.kids {
				kids := exprs(col("x"), col("y"))[:k.kids]
				kids[at] = made(inner.name, exprs(col("p"), col("q"))[:inner.kids]...)
				text := strings.NewReplacer("x", "p", "y", "q").Replace(inner.text)
				wantExpr(t, made(k.name, kids...), strings.Replace(k.text, "xy"[at:at+1], text, 1))
			}
		}
	}
}

func TestFieldsThatAreNotAnOpsOwn(t *testing.T) {
	for _, k := range ops() {
		e := made(k.name, exprs(col("x"), num(2))[:k.kids]...)
		for _, v := range []api.Value{{Kind: 1}, {Kind: 1, N: 1}, {Kind: 2}, {Kind: 2, N: 5}, {Kind: 3}, {Kind: 3, S: "a"}, {N: 1}, {N: -1}, {S: "a"}, {Kind: -1}, {Kind: 4}} {
			if x := e; k.name != "value" {
				x.V = v
				wantWrongExpr(t, x)
			}
		}
		for _, s := range append(names(), noNames()...) {
			x := e
			if x.Var = s; k.name != "column" {
				wantWrongExpr(t, x)
			}
			x = e
			if x.Col = s; k.name != "column" {
				wantWrongExpr(t, x)
			}
		}
	}
}

func TestOpsThatAreNone(t *testing.T) {
	for _, name := range []string{
		"", " ", "\x00", "x", "VALUE", "Value", "value ", " value", "values", "valu", "const", "COLUMN", "col", "columns", "NEG", "negate", "(-", "- ",
		"NOT", "not ", "!", "NULL", "is", "IS NULL", "isnull", "nul", "/", "%", "++", "+ ", "--", "**", "==", "!=", "><", "=<", "=>", "<>=", "<=>", "> ",
		"AND", "And", "and ", "&&", "OR", "||", "xor", "in", "like", "between", strings.Repeat("and", 1000),
	} {
		for n := range 4 {
			e := op(name, exprs(col("x"), num(1), col("z"))[:n]...)
			wantWrongExpr(t, e)
			e.V = api.Value{Kind: 2, N: 1}
			wantWrongExpr(t, e)
			e.V, e.Col = api.Value{}, "a"
			wantWrongExpr(t, e)
		}
	}
	wantWrongExpr(t, ast.Expr{})
}

func TestValues(t *testing.T) {
	for text, v := range map[string]api.Value{
		"NULL": {}, "FALSE": {Kind: 1}, "TRUE": {Kind: 1, N: 1},
		"0": {Kind: 2}, "1": {Kind: 2, N: 1}, "10": {Kind: 2, N: 10}, "9223372036854775807": {Kind: 2, N: math.MaxInt},
		"''": {Kind: 3}, "'a'": {Kind: 3, S: "a"}, "''''": {Kind: 3, S: "'"}, "'it''s'": {Kind: 3, S: "it's"}, "''''''": {Kind: 3, S: "''"},
		"'NULL'": {Kind: 3, S: "NULL"}, "'1'": {Kind: 3, S: "1"}, "' \n\x00\xff%s@'": {Kind: 3, S: " \n\x00\xff%s@"},
		"'" + strings.Repeat("x", 24) + "'":  {Kind: 3, S: strings.Repeat("x", 24)},
		"'" + strings.Repeat("''", 24) + "'": {Kind: 3, S: strings.Repeat("'", 24)},
	} {
		wantExpr(t, val(v), text)
		wantExpr(t, op("neg", val(v)), "(- "+text+")")
		wantExpr(t, op("=", val(v), op("null", val(v))), "("+text+" = ("+text+" IS NULL))")
	}
}

func TestValuesThatAreNotRight(t *testing.T) {
	for _, v := range []api.Value{
		{N: 1}, {N: -1}, {S: "a"}, {N: 1, S: "a"},
		{Kind: 1, N: 2}, {Kind: 1, N: -1}, {Kind: 1, N: 256}, {Kind: 1, S: "a"}, {Kind: 1, N: 1, S: "TRUE"},
		{Kind: 2, N: -1}, {Kind: 2, N: -2}, {Kind: 2, N: -1 << 32}, {Kind: 2, N: math.MinInt + 1}, {Kind: 2, N: math.MinInt}, {Kind: 2, S: "a"}, {Kind: 2, N: 1, S: "1"},
		{Kind: 3, N: 1}, {Kind: 3, N: -1, S: "a"}, {Kind: 3, S: strings.Repeat("x", 25)}, {Kind: 3, S: strings.Repeat("'", 25)}, {Kind: 3, S: strings.Repeat("x", 9000)},
		{Kind: 4}, {Kind: 4, N: 1}, {Kind: -1}, {Kind: 256}, {Kind: 258, N: 1}, {Kind: math.MaxInt}, {Kind: math.MinInt},
	} {
		wantWrongExpr(t, val(v))
	}
}

func TestColumns(t *testing.T) {
	for _, s := range names() {
		wantExpr(t, col(s), s)
		wantExpr(t, dot("v", s), "v."+s)
		wantExpr(t, dot(s, "c"), s+".c")
		wantExpr(t, dot(s, s), s+"."+s)
	}
	for _, s := range noNames() {
		wantWrongExpr(t, col(s))
		wantWrongExpr(t, dot("v", s))
		wantWrongExpr(t, dot(s, "c"))
		wantWrongExpr(t, dot(s, s))
	}
	for _, s := range append(names(), "") {
		wantWrongExpr(t, dot(s, ""))
	}
}

// deep puts an expression into n others, one about the other, by a way that tells how the next one stands about it.
func deep(n int, e ast.Expr, about func(i int, e ast.Expr) ast.Expr) ast.Expr {
	for i := range n {
		e = about(i, e)
	}
	return e
}

func TestDepth(t *testing.T) {
	mixed := []string{"and", "or", "+", "<>", "*"}
	for way, about := range []func(i int, e ast.Expr) ast.Expr{
		func(i int, e ast.Expr) ast.Expr { return op("neg", e) },
		func(i int, e ast.Expr) ast.Expr { return op("not", e) },
		func(i int, e ast.Expr) ast.Expr { return op("null", e) },
		func(i int, e ast.Expr) ast.Expr { return op("+", e, num(1)) },
		func(i int, e ast.Expr) ast.Expr { return op("and", num(1), e) },
		func(i int, e ast.Expr) ast.Expr {
			return op(mixed[i%5], exprs(e, col("a"))[i%2], exprs(col("a"), e)[i%2])
		},
		func(i int, e ast.Expr) ast.Expr { return op("=", op("not", col("a")), op("null", e)) },
	} {
		for _, leaf := range []ast.Expr{num(1), col("a"), dot("a", "b"), val(api.Value{})} {
			a := 1
			if way == 6 {
				a = 2 // two expressions a step
			}
			for n := range 19/a + 1 {
				if e := deep(n, leaf, about); !ast.RightExpr(e) || ast.ShowExpr(e) == "" {
					t.Errorf("way %d: %d expressions about one aren't right", way, n*a)
				}
			}
			for _, n := range []int{20 / a, 20/a + 1, 22, 30, 1000} {
				wantWrongExpr(t, deep(n, leaf, about))
			}
		}
	}
}

// Twenty within one another have a text, wherever the deepest one stands; the last one that is too deep is met there too.
func TestDepthAtEachPlace(t *testing.T) {
	for turns := range 19 {
		for _, leaf := range []ast.Expr{num(1), col("a")} {
			about := func(i int, e ast.Expr) ast.Expr {
				if i == turns {
					return op("-", col("l"), e)
				}
				return op("-", e, col("r"))
			}
			text := deepText(turns, ast.ShowExpr(leaf))
			wantExpr(t, deep(19, leaf, about), text)
			wantWrongExpr(t, deep(19, op("neg", leaf), about))
			wantWrongExpr(t, deep(19, op("+", leaf, leaf), about))
			wantWrongExpr(t, deep(20, leaf, about))
		}
	}
}

func deepText(turns int, text string) string {
	for i := range 19 {
		if i == turns {
			text = "(l - " + text + ")"
		} else {
			text = "(" + text + " - r)"
		}
	}
	return text
}

// The depth is that of the deepest Kid, not the last one's, and not how many there are in all.
func TestDepthOfBoth(t *testing.T) {
	neg := func(i int, e ast.Expr) ast.Expr { return op("neg", e) }
	for a := range 22 {
		for b := range 22 {
			e := op("*", deep(a, num(1), neg), deep(b, num(2), neg))
			if right := a <= 18 && b <= 18; ast.RightExpr(e) != right || (ast.ShowExpr(e) != "") != right {
				t.Errorf("%d and %d within: %v", a, b, !right)
			}
		}
	}
}

func TestTextOfAnExpression(t *testing.T) {
	wantExpr(t, op("or", op("and", op("not", op("null", dot("x", "a"))), op("<=", op("-", num(0), op("*", col("b"), op("neg", num(3)))), op("+", str("a'b"), val(api.Value{})))), val(api.Value{Kind: 1, N: 1})),
		"(((NOT (x.a IS NULL)) AND ((0 - (b * (- 3))) <= ('a''b' + NULL))) OR TRUE)")
	wantExpr(t, op("neg", op("neg", op("neg", num(0)))), "(- (- (- 0)))")
	wantExpr(t, op("-", op("neg", num(1)), op("neg", num(2))), "((- 1) - (- 2))")
	wantExpr(t, op("not", op("not", col("not"))), "(NOT (NOT not))")
	wantExpr(t, op("null", op("null", dot("null", "null"))), "((null.null IS NULL) IS NULL)")
}
