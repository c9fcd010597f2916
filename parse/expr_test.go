package parse_test

import (
	"math"
	"strconv"
	"strings"
	"testing"

	"tripwire/api"
	"tripwire/ast"
)

func TestAtoms(t *testing.T) {
	for text, want := range map[string]ast.Expr{
		"0":                          num(0),
		"1":                          num(1),
		"007":                        num(7),
		"9223372036854775807":        num(math.MaxInt),
		"''":                         str(""),
		"'a'":                        str("a"),
		"'it''s'":                    str("it's"),
		"''''":                       str("'"),
		"'NULL'":                     str("NULL"),
		"'('":                        str("("),
		"'-'":                        str("-"),
		"'a\n\xff\x00'":              str("a\n\xff\x00"),
		"NULL":                       val(api.Value{}),
		"TRUE":                       truth(1),
		"FALSE":                      truth(0),
		"a":                          col("a"),
		"abcdefghijklmnop":           col("abcdefghijklmnop"),
		"x.a":                        dot("x", "a"),
		"x . a":                      dot("x", "a"),
		"a.x":                        dot("a", "x"),
		"a.a":                        dot("a", "a"),
		"(1)":                        num(1),
		"( x.a )":                    dot("x", "a"),
		"(((NULL)))":                 val(api.Value{}),
		" \n\ta\t\n ":                col("a"),
		"'abcdefghijklmnopqrst1234'": str("abcdefghijklmnopqrst1234"),
	} {
		wantExpr(t, text, want)
		wantStmt(t, "SELECT "+text+" FROM t WHERE "+text, ast.Stmt{Kind: 15, Items: exprs(want), From: from(ast.Source{Table: "t"}), Where: exprs(want)})
	}
}

// sign is what stands between two expressions: its text, its Op, and how close it binds.
type sign struct {
	text, op string
	close    int
}

const (
	closeOr = iota
	closeAnd
	closeNot
	closeCmp
	closeSum
	closeTerm
)

func signs() []sign {
	return []sign{
		{"OR", "or", closeOr}, {"AND", "and", closeAnd},
		{"=", "=", closeCmp}, {"<>", "<>", closeCmp}, {"<", "<", closeCmp}, {"<=", "<=", closeCmp}, {">", ">", closeCmp}, {">=", ">=", closeCmp},
		{"+", "+", closeSum}, {"-", "-", closeSum}, {"*", "*", closeTerm},
	}
}

// joined is the tokens, with blanks between, and where the one of a number begins.
func joined(at int, l ...string) (string, int) {
	return strings.Join(l, " "), len(strings.Join(append(l[:at:at], ""), " "))
}

func TestTwoOperands(t *testing.T) {
	for _, s := range signs() {
		wantExpr(t, "a "+s.text+" b", op(s.op, col("a"), col("b")))
		wantExpr(t, "(a) "+s.text+"\n( b )", op(s.op, col("a"), col("b")))
		wantExpr(t, "1 "+s.text+" x.a", op(s.op, num(1), dot("x", "a")))
		wantExpr(t, "NULL "+s.text+" 'x'", op(s.op, val(api.Value{}), str("x")))
		wantExpr(t, "TRUE "+s.text+" FALSE", op(s.op, truth(1), truth(0)))
	}
	wantExpr(t, "a<=b", op("<=", col("a"), col("b")))
	wantExpr(t, "a<-b", op("<", col("a"), op("neg", col("b"))))
	wantExpr(t, "a--b", op("-", col("a"), op("neg", col("b"))))
}

// Each two signs behind one another: the one that binds closer has its operands first; of like ones the left one.
func TestEachTwoSigns(t *testing.T) {
	a, b, c := col("a"), col("b"), col("c")
	for _, p := range signs() {
		for _, q := range signs() {
			text, at := joined(3, "a", p.text, "b", q.text, "c")
			left, right := op(q.op, op(p.op, a, b), c), op(p.op, a, op(q.op, b, c))
			switch {
			case p.close == closeCmp && q.close == closeCmp:
				wantExprFault(t, text, syntax(at))
				wantFault(t, "SELECT * FROM t WHERE "+text, syntax(22+at))
			case p.close >= q.close:
				wantExpr(t, text, left)
			default:
				wantExpr(t, text, right)
			}
			wantExpr(t, "(a "+p.text+" b) "+q.text+" c", left)
			wantExpr(t, "a "+p.text+" (b "+q.text+" c)", right)
			wantExpr(t, "((a "+p.text+" b) "+q.text+" c)", left)
			wantExpr(t, "(a) "+p.text+" ((b "+q.text+" (c)))", right)
		}
	}
}

// Each three signs that aren't comparisons, and comparisons between sums.
func TestEachThreeSigns(t *testing.T) {
	for _, p := range signs() {
		for _, q := range signs() {
			for _, r := range signs() {
				text := "a " + p.text + " b " + q.text + " c " + r.text + " d"
				if want, x := told(text); x == (api.Fault{}) {
					wantExpr(t, text, want)
				} else {
					wantExprFault(t, text, x)
				}
			}
		}
	}
	wantExpr(t, "a + b < c - d", op("<", op("+", col("a"), col("b")), op("-", col("c"), col("d"))))
	wantExpr(t, "a = b OR c = d AND e = f", op("or", op("=", col("a"), col("b")), op("and", op("=", col("c"), col("d")), op("=", col("e"), col("f")))))
	wantExpr(t, "a * b + c * d", op("+", op("*", col("a"), col("b")), op("*", col("c"), col("d"))))
}

// What stands at the left of several that bind alike stands deeper.
func TestSeveralOfAKind(t *testing.T) {
	for _, s := range signs() {
		if s.close == closeCmp {
			continue
		}
		e, text := num(1), "1"
		for n := 2; n <= 20; n++ {
			e, text = op(s.op, e, num(n)), text+" "+s.text+" "+strconv.Itoa(n)
			wantExpr(t, text, e)
		}
		e, text = num(1), "1"
		for n := 2; n <= 20; n++ {
			e, text = op(s.op, num(n), e), strconv.Itoa(n)+" "+s.text+" ("+text+")"
			wantExpr(t, text, e)
		}
	}
	wantExpr(t, "a - b + c - d", op("-", op("+", op("-", col("a"), col("b")), col("c")), col("d")))
	wantExpr(t, "a + b - c + d", op("+", op("-", op("+", col("a"), col("b")), col("c")), col("d")))
	wantExpr(t, "1-2-3", op("-", op("-", num(1), num(2)), num(3)))
}

func TestNot(t *testing.T) {
	a, b := col("a"), col("b")
	not := func(e ast.Expr) ast.Expr { return op("not", e) }
	wantExpr(t, "NOT a", not(a))
	wantExpr(t, "NOT NOT a", not(not(a)))
	wantExpr(t, "NOT NOT NOT NULL", not(not(not(val(api.Value{})))))
	wantExpr(t, "NOT (NOT (a))", not(not(a)))
	wantExpr(t, "NOT - a", not(op("neg", a)))
	wantExpr(t, "(NOT a)", not(a))
	for _, s := range signs() {
		if s.close > closeNot {
			wantExpr(t, "NOT a "+s.text+" b", not(op(s.op, a, b)))
			wantExpr(t, "NOT NOT a "+s.text+" b", not(not(op(s.op, a, b))))
			text, at := joined(2, "a", s.text, "NOT", "b")
			wantExprFault(t, text, syntax(at))
		} else {
			wantExpr(t, "NOT a "+s.text+" b", op(s.op, not(a), b))
			wantExpr(t, "a "+s.text+" NOT b", op(s.op, a, not(b)))
			wantExpr(t, "a "+s.text+" NOT NOT b", op(s.op, a, not(not(b))))
			wantExpr(t, "NOT a "+s.text+" NOT b", op(s.op, not(a), not(b)))
		}
		wantExpr(t, "(NOT a) "+s.text+" b", op(s.op, not(a), b))
		wantExpr(t, "NOT (a "+s.text+" b)", not(op(s.op, a, b)))
		wantExpr(t, "a "+s.text+" (NOT b)", op(s.op, a, not(b)))
	}
	wantExprFault(t, "NOT", syntax(3))
	wantExprFault(t, "a NOT", syntax(2))
	wantExprFault(t, "- NOT a", syntax(2))
}

func TestNeg(t *testing.T) {
	a, b := col("a"), col("b")
	neg := func(e ast.Expr) ast.Expr { return op("neg", e) }
	wantExpr(t, "- a", neg(a))
	wantExpr(t, "-1", neg(num(1)))
	wantExpr(t, "-9223372036854775807", neg(num(math.MaxInt)))
	wantExpr(t, "- - a", neg(neg(a)))
	wantExpr(t, "---x.a", neg(neg(neg(dot("x", "a")))))
	wantExpr(t, "-(-(a))", neg(neg(a)))
	wantExpr(t, "- NULL", neg(val(api.Value{})))
	for _, s := range signs() {
		wantExpr(t, "- a "+s.text+" b", op(s.op, neg(a), b))
		wantExpr(t, "a "+s.text+" - b", op(s.op, a, neg(b)))
		wantExpr(t, "- - a "+s.text+" - - b", op(s.op, neg(neg(a)), neg(neg(b))))
		wantExpr(t, "- (a "+s.text+" b)", neg(op(s.op, a, b)))
	}
	wantExprFault(t, "-", syntax(1))
	wantExprFault(t, "a -", syntax(3))
	wantExprFault(t, "+ a", syntax(0))
	wantExprFault(t, "-9223372036854775808", syntax(1))
}

func TestIsNull(t *testing.T) {
	a, b := col("a"), col("b")
	null, not := func(e ast.Expr) ast.Expr { return op("null", e) }, func(e ast.Expr) ast.Expr { return op("not", e) }
	wantExpr(t, "a IS NULL", null(a))
	wantExpr(t, "a IS NOT NULL", not(null(a)))
	wantExpr(t, "NULL IS NULL", null(val(api.Value{})))
	wantExpr(t, "NULL IS NOT NULL", not(null(val(api.Value{}))))
	wantExpr(t, "NOT a IS NULL", not(null(a)))
	wantExpr(t, "NOT a IS NOT NULL", not(not(null(a))))
	wantExpr(t, "(NOT a) IS NULL", null(not(a)))
	wantExpr(t, "- a IS NULL", null(op("neg", a)))
	wantExpr(t, "(a IS NULL) IS NULL", null(null(a)))
	wantExpr(t, "(a IS NOT NULL) IS NOT NULL", not(null(not(null(a)))))
	for _, s := range signs() {
		behind, at := joined(3, "a", s.text, "b", "IS", "NULL")
		ahead, place := joined(3, "a", "IS", "NULL", s.text, "b")
		switch {
		case s.close == closeCmp:
			wantExprFault(t, behind, syntax(at))
			wantExprFault(t, ahead, syntax(place))
		case s.close > closeCmp:
			wantExpr(t, behind, null(op(s.op, a, b)))
			wantExpr(t, "a "+s.text+" b IS NOT NULL", not(null(op(s.op, a, b))))
			wantExprFault(t, ahead, syntax(place))
		default:
			wantExpr(t, behind, op(s.op, a, null(b)))
			wantExpr(t, "a "+s.text+" b IS NOT NULL", op(s.op, a, not(null(b))))
			wantExpr(t, ahead, op(s.op, null(a), b))
			wantExpr(t, "a IS NOT NULL "+s.text+" b", op(s.op, not(null(a)), b))
		}
		wantExpr(t, "(a "+s.text+" b) IS NULL", null(op(s.op, a, b)))
		wantExpr(t, "a "+s.text+" (b IS NULL)", op(s.op, a, null(b)))
		wantExpr(t, "(a IS NOT NULL) "+s.text+" b", op(s.op, not(null(a)), b))
	}
	for text, at := range map[string]int{
		"a IS": 4, "a IS NOT": 8, "a IS a": 5, "a IS NOT a": 9, "a IS NOT NOT NULL": 9, "a IS TRUE": 5, "a IS (NULL)": 5,
		"a IS NULL IS NULL": 10, "a IS NOT NULL IS NULL": 14, "IS NULL": 0, "a NOT NULL": 2, "a IS NULL NULL": 10, "a IS 'NULL'": 5,
	} {
		wantExprFault(t, text, syntax(at))
	}
}

// Parentheses leave nothing, wherever they stand around a whole expression.
func TestParentheses(t *testing.T) {
	for _, text := range []string{"a", "1", "a + b", "a < b", "NOT a", "- a", "a AND b OR c", "a IS NULL", "(a = b) = c", "x.a * (1 + 2)"} {
		want, x := told(text)
		if x != (api.Fault{}) {
			t.Fatalf("%q: %v", text, x)
		}
		for n := range 30 {
			wantExpr(t, strings.Repeat("(", n)+text+strings.Repeat(")", n), want)
			wantExprFault(t, strings.Repeat("(", n+1)+text+strings.Repeat(")", n), syntax(2*n+1+len(text)))
			wantExprFault(t, strings.Repeat("(", n)+text+strings.Repeat(")", n+1), syntax(2*n+len(text)))
		}
	}
	for text, at := range map[string]int{"()": 1, "(": 1, ")": 0, "(a, b)": 2, "(a b)": 3, "a (b)": 2, "(a) b": 4, "(a)(b)": 3, "(a).b": 3, "a.(b)": 2} {
		wantExprFault(t, text, syntax(at))
	}
}

// A statement isn't an expression, nor the other way round.
func TestOneIsNotTheOther(t *testing.T) {
	for _, x := range samples() {
		wantExprFault(t, x.text, syntax(0))
	}
	for _, text := range []string{"a", "1", "NOT a", "a + b", "(a)", "NULL", "'BEGIN'"} {
		wantFault(t, text, syntax(0))
	}
}
