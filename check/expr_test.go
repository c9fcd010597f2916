package check_test

import (
	"math"
	"reflect"
	"slices"
	"strings"
	"testing"

	"tripwire/api"
	"tripwire/ast"
	"tripwire/check"
)

func val(v api.Value) ast.Expr { return ast.Expr{Op: "value", V: v} }

func num(n int) ast.Expr { return val(api.Value{Kind: api.Int, N: n}) }

func col(name string) ast.Expr { return ast.Expr{Op: "column", Col: name} }

func dot(v, name string) ast.Expr { return ast.Expr{Op: "column", Var: v, Col: name} }

func op(name string, kids ...ast.Expr) ast.Expr { return ast.Expr{Op: name, Kids: kids} }

func ones() []string { return []string{"neg", "not", "null"} }

func twos() []string {
	return []string{"+", "-", "*", "=", "<>", "<", "<=", ">", ">=", "and", "or"}
}

// wantTold holds Expr against what is told anew.
func wantTold(t *testing.T, l []check.Var, e ast.Expr) {
	t.Helper()
	n, kind, err := check.Expr(l, e)
	m, want, x := told(l, e)
	if err != x || kind != want || !reflect.DeepEqual(n, m) {
		t.Errorf("%s over %s: %s, of the type %d, %d; not %s, of the type %d, %d", short(ast.ShowExpr(e)), short(varsText(l)), short(node(n)), kind, err, short(node(m)), want, x)
	}
}

func TestValues(t *testing.T) {
	for text, kind := range map[string]int{"NULL": 0, "TRUE": 1, "FALSE": 1, "0": 2, "7": 2, "9223372036854775807": 2, "''": 3, "'a'": 3, "'NULL'": 3, "'123456789012345678901234'": 3} {
		for _, l := range [][]check.Var{nil, {}, someVars()} {
			wantExpr(t, l, text, text, kind)
		}
	}
}

// Each type's examples: of NULL's, of Bool, of Int, of Text.
func ofType() [][]string {
	return [][]string{{"NULL"}, {"TRUE", "u.c", "d", "(1 = 1)", "(NULL IS NULL)"}, {"1", "x.a", "f", "(- 1)"}, {"'s'", "b", "inserted.e", "('s' + 's')"}}
}

func TestTypesByHand(t *testing.T) {
	l := someVars()
	for text, kind := range map[string]int{
		"- 1": 2, "- NULL": 2, "- f": 2, "- - x.a": 2, "- (1 + NULL)": 2, "- (NULL + NULL)": 2,
		"NOT TRUE": 1, "NOT NULL": 1, "NOT c": 1, "NOT (NULL + NULL)": 1, "NOT 1 = 1": 1,
		"1 IS NULL": 1, "NULL IS NULL": 1, "b IS NULL": 1, "d IS NULL": 1, "(NULL + NULL) IS NULL": 1,
		"1 - 1": 2, "NULL - 1": 2, "1 - NULL": 2, "NULL - NULL": 2, "2 * 3": 2, "NULL * 1": 2, "1 * NULL": 2, "NULL * NULL": 2,
		"1 + 1": 2, "NULL + 1": 2, "1 + NULL": 2, "'a' + 'b'": 3, "NULL + 'b'": 3, "'a' + NULL": 3, "NULL + NULL": 0,
		"NULL + NULL + 1": 2, "NULL + NULL + 's'": 3, "NULL + (NULL + NULL)": 0, "NULL - NULL + NULL": 2,
		"1 = 1": 1, "NULL = 1": 1, "'a' < NULL": 1, "NULL >= NULL": 1, "TRUE <> FALSE": 1, "'a' > 'b'": 1, "1 <= 2": 1, "c = d": 1, "b = e": 1,
		"TRUE AND FALSE": 1, "NULL AND TRUE": 1, "NULL OR NULL": 1, "c OR d": 1, "TRUE AND NULL": 1, "NULL AND NULL": 1,
	} {
		if _, k, e := check.Expr(l, expr(t, text)); e != api.OK || k != kind {
			t.Errorf("%q is of the type %d, %d; not of %d", text, k, e, kind)
		}
	}
	for _, text := range []string{
		"- TRUE", "- 'a'", "- b", "- c", "- (1 = 1)", "NOT 1", "NOT 'a'", "NOT x.a", "NOT - NULL", "NOT (NULL + 1)",
		"1 - TRUE", "TRUE - 1", "'a' - 'b'", "'a' * 2", "NULL * 'a'", "'a' - NULL", "TRUE * NULL", "NULL - FALSE",
		"1 + 'a'", "'a' + 1", "TRUE + TRUE", "TRUE + NULL", "NULL + TRUE", "1 + TRUE", "FALSE + 's'", "c + c", "NULL + 1 + 's'", "NULL + NULL - 's'",
		"1 = 'a'", "'a' = 1", "TRUE < 1", "1 > TRUE", "TRUE <> 'a'", "b >= f", "(1 = 1) = 1", "(NULL + 's') = 1", "- NULL = 's'",
		"TRUE AND 1", "1 AND TRUE", "'a' OR NULL", "NULL OR 1", "1 AND 1", "'a' AND 'a'", "NULL AND - NULL",
	} {
		wantTextError(t, l, text, api.ErrType)
	}
}

// Each op with Kids of each type.
func TestTypesOfEachOp(t *testing.T) {
	l, types := someVars(), ofType()
	for a, texts := range types {
		for _, text := range texts {
			x := expr(t, text)
			for _, name := range ones() {
				wantTyped(t, l, op(name, x), typesOf(name)[a])
			}
			for b, others := range types {
				for _, other := range others {
					for _, name := range twos() {
						wantTyped(t, l, op(name, x, expr(t, other)), typesOf(name)[a*5+b])
					}
				}
			}
		}
	}
}

// wantTyped asks for a type's digit, or for ErrType, if it is a dot.
func wantTyped(t *testing.T, l []check.Var, e ast.Expr, want byte) {
	t.Helper()
	if want == '.' {
		wantError(t, l, e, api.ErrType)
		return
	}
	n, kind, err := check.Expr(l, e)
	if err != api.OK || kind != int(want-'0') || n.Op != e.Op || len(n.Kids) != len(e.Kids) {
		t.Errorf("%s: %s, of the type %d, %d; not of %c", ast.ShowExpr(e), node(n), kind, err, want)
	}
	wantTold(t, l, e)
}

func TestNodes(t *testing.T) {
	l := someVars()
	wantExpr(t, l, "x.a", "0.0", 2)
	wantExpr(t, l, "x.b", "0.1", 3)
	wantExpr(t, l, "b", "0.1", 3)
	wantExpr(t, l, "u.a", "1.0", 2)
	wantExpr(t, l, "u.c", "1.1", 1)
	wantExpr(t, l, "c", "1.1", 1)
	wantExpr(t, l, "d", "2.0", 1)
	wantExpr(t, l, "inserted.e", "2.1", 3)
	wantExpr(t, l, "f", "2.2", 2)
	wantExpr(t, l, "x.a + 1 < u.a * 2 AND NOT c OR b IS NOT NULL", "((((0.0 + 1) < (1.0 * 2)) and (not 1.1)) or (not (null 0.1)))", 1)
	wantExpr(t, l, "- f - - 3 <> NULL", "(((neg 2.2) - (neg 3)) <> NULL)", 1)
	wantExpr(t, l, "b + 'it''s' >= e", "((0.1 + 'it''s') >= 2.1)", 1)
	wantExpr(t, l, "x.a = u.a", "(0.0 = 1.0)", 1)
	wantExpr(t, l, "u.a = x.a", "(1.0 = 0.0)", 1)
	wantExpr(t, l, "f <= f", "(2.2 <= 2.2)", 1)
	wantExpr(t, l, "d > FALSE", "(2.0 > FALSE)", 1)
}

func TestNames(t *testing.T) {
	l := someVars()
	for _, text := range []string{
		"a",                            // of two
		"z", "t", "x", "u", "inserted", // of none
		"y.a", "t.a", "w.d", "a.a", "b.b", "deleted.d", // no variable
		"x.c", "u.b", "inserted.a", "x.d", "u.f", "inserted.b", // a variable without it
	} {
		wantTextError(t, l, text, api.ErrName)
		for _, around := range []string{"- #", "# IS NULL", "NOT #", "1 + #", "# + 1", "# = NULL", "NULL < #", "TRUE AND #", "# OR NULL"} {
			wantTextError(t, l, strings.Replace(around, "#", text, 1), api.ErrName)
		}
		wantTextError(t, nil, text, api.ErrName)
	}
	for _, v := range l {
		for _, c := range v.Cols {
			wantError(t, nil, col(c.Name), api.ErrName)
			wantError(t, nil, dot(v.Name, c.Name), api.ErrName)
		}
	}
}

// A column without Var, over each choice of which variables have it.
func TestHowManyVariablesHaveIt(t *testing.T) {
	for n := range 6 {
		for bits := range 1 << n {
			var l []check.Var
			var has []int
			for i := range n {
				v := check.Var{Name: "v" + string(rune('0'+i)), Cols: cols("b TEXT, c INT, d BOOL")}
				if bits>>i&1 != 0 {
					has = append(has, i)
					v.Cols = slices.Insert(v.Cols, i%4, api.Column{Name: "a", Type: 1 + i%3})
				}
				l = append(l, v)
			}
			if len(has) != 1 {
				wantError(t, l, col("a"), api.ErrName)
			} else if m, kind, e := check.Expr(l, col("a")); e != api.OK || kind != 1+has[0]%3 || m.Op != "column" || m.Var != has[0] || m.Col != has[0]%4 {
				t.Errorf("%+v, %d, %d", m, kind, e)
			}
			for i, v := range l {
				if bits>>i&1 == 0 {
					wantError(t, l, dot(v.Name, "a"), api.ErrName)
				} else if m, kind, e := check.Expr(l, dot(v.Name, "a")); e != api.OK || kind != 1+i%3 || m.Var != i || m.Col != i%4 {
					t.Errorf("%+v, %d, %d", m, kind, e)
				}
			}
		}
	}
}

// Of two variables of one name the first one is meant; without Var each of them counts.
func TestTwoVariablesOfOneName(t *testing.T) {
	l := []check.Var{variable("y", "z INT"), variable("x", "a INT, b TEXT"), variable("x", "c BOOL, a TEXT"), variable("y", "z TEXT")}
	wantExpr(t, l, "x.a", "1.0", 2)
	wantExpr(t, l, "x.b", "1.1", 3)
	wantTextError(t, l, "x.c", api.ErrName)
	wantExpr(t, l, "c", "2.0", 1)
	wantExpr(t, l, "b", "1.1", 3)
	wantTextError(t, l, "a", api.ErrName)
	wantTextError(t, l, "z", api.ErrName)
	wantExpr(t, l, "y.z", "0.0", 2)
}

// No table has two columns of one name, but such a variable is one alone; of its columns the first one is meant.
func TestTwoColumnsOfOneName(t *testing.T) {
	l := []check.Var{variable("x", "b INT, a TEXT, a INT, a BOOL"), variable("y", "c INT")}
	wantExpr(t, l, "a", "0.1", 3)
	wantExpr(t, l, "x.a", "0.1", 3)
}

// A variable without a name, or with one that no expression can tell, is there for columns without Var alone.
func TestVariablesOfOtherNames(t *testing.T) {
	for _, name := range []string{"", "X", "x.a", "\x00", strings.Repeat("x", 17)} {
		l := []check.Var{variable(name, "a INT"), variable("x", "b TEXT")}
		wantExpr(t, l, "a", "0.0", 2)
		wantExpr(t, l, "x.b", "1.0", 3)
		wantTextError(t, l, "x.a", api.ErrName)
		wantTextError(t, []check.Var{l[0], l[1], variable("z", "a INT")}, "a", api.ErrName)
	}
	l := []check.Var{{Name: "x"}, {Name: "y", Cols: []api.Column{}}}
	wantTextError(t, l, "x.a", api.ErrName)
	wantTextError(t, l, "a", api.ErrName)
	wantExpr(t, l, "1", "1", 2)
}

// A column's type is what it is told to be: NULL's agrees with all, and one that nobody knows with itself and NULL's alone.
func TestOtherTypesOfColumns(t *testing.T) {
	l := []check.Var{variable("x", "n NULL")}
	wantExpr(t, l, "n", "0.0", 0)
	wantExpr(t, l, "n + n", "(0.0 + 0.0)", 0)
	wantExpr(t, l, "n + 's'", "(0.0 + 's')", 3)
	wantExpr(t, l, "- n", "(neg 0.0)", 2)
	wantExpr(t, l, "n AND n = 1", "(0.0 and (0.0 = 1))", 1)
	for _, kind := range []int{-1, 4, 5, math.MinInt, math.MaxInt} {
		l := []check.Var{{Name: "x", Cols: []api.Column{{Name: "o", Type: kind}}}}
		wantExpr(t, l, "o", "0.0", kind)
		wantExpr(t, l, "o IS NULL", "(null 0.0)", 1)
		wantExpr(t, l, "o = o", "(0.0 = 0.0)", 1)
		wantExpr(t, l, "NULL < o", "(NULL < 0.0)", 1)
		for _, text := range []string{"o + o", "o + NULL", "NULL + o", "o + 1", "'s' + o", "- o", "NOT o", "o AND TRUE", "NULL OR o", "o * o", "NULL - o", "o = 1", "'s' < o", "o <> TRUE"} {
			wantTextError(t, l, text, api.ErrType)
		}
		if n, e := check.Cond(l, []ast.Expr{col("o")}); e != api.ErrType || len(n) != 0 {
			t.Error(n, e)
		}
	}
}

// The first error from the left, and what is deeper first.
func TestErrorsInOrder(t *testing.T) {
	l := someVars()
	for text, want := range map[string]api.Errno{
		"zz + c": api.ErrName, "c + zz": api.ErrName, // the sum's own types are asked last
		"zz + (1 + c)": api.ErrName, "(1 + c) + zz": api.ErrType,
		"(1 + 's') = zz": api.ErrType, "zz = (1 + 's')": api.ErrName,
		"NOT (1 + zz)": api.ErrName, "NOT (1 + 's')": api.ErrType, "NOT (1 + 1) AND zz": api.ErrType, "zz AND NOT (1 + 1)": api.ErrName,
		"- 's' + zz": api.ErrType, "zz + - 's'": api.ErrName, "1 AND zz": api.ErrName, "zz AND 1": api.ErrName,
		"(1 AND 2) OR zz": api.ErrType, "zz OR (1 AND 2)": api.ErrName,
		"(TRUE AND (x.a = 's')) OR zz": api.ErrType, "(zz IS NULL) + 1": api.ErrName, "- (1 = zz)": api.ErrName,
		"1 + (2 + (3 + zz)) + 's'": api.ErrName, "1 + 's' + (2 + (3 + zz))": api.ErrType,
	} {
		wantTextError(t, l, text, want)
	}
}

// What isn't right is told first, whatever else is wrong with it.
func TestNotRight(t *testing.T) {
	wrong := []ast.Expr{
		{}, {Op: "no"}, {Op: "value", Kids: []ast.Expr{num(1)}}, num(-1), num(math.MinInt), val(api.Value{Kind: 4}), val(api.Value{Kind: 1, N: 2}),
		val(api.Value{Kind: 3, S: strings.Repeat("s", 25)}), val(api.Value{N: 1}), col(""), col("A"), dot("X", "a"), {Op: "column", Col: "b", Kids: []ast.Expr{num(1)}},
		{Op: "column", Col: "b", V: api.Value{Kind: 2}}, op("neg"), op("neg", num(1), num(2)), op("null"), op("+", num(1)), op("+", num(1), num(2), num(3)), op("and"),
		{Op: "not", Col: "c", Kids: []ast.Expr{val(api.Value{})}}, {Op: "value", Col: "b"}, {Op: "NEG", Kids: []ast.Expr{num(1)}}, {Op: "AND", Kids: []ast.Expr{num(1), num(1)}},
		deep(21, func(e ast.Expr) ast.Expr { return op("neg", e) }), deep(21, func(e ast.Expr) ast.Expr { return op("-", num(1), e) }),
	}
	itself := make([]ast.Expr, 2)
	itself[0], itself[1] = op("and", itself...), op("and", itself...)
	itself[0].Kids, itself[1].Kids = itself, itself
	for _, e := range append(wrong, itself...) {
		for _, l := range [][]check.Var{nil, someVars()} {
			wantError(t, l, e, api.ErrArg)
			wantError(t, l, op("+", col("zz"), e), api.ErrArg)
			wantError(t, l, op("and", op("+", num(1), val(api.Value{Kind: 3})), e), api.ErrArg)
			wantError(t, l, op("+", e, col("zz")), api.ErrArg)
		}
	}
}

// deep is n expressions within one another, the deepest of which is 1.
func deep(n int, around func(ast.Expr) ast.Expr) ast.Expr {
	e := num(1)
	for range n - 1 {
		e = around(e)
	}
	return e
}

func TestDeepExpressions(t *testing.T) {
	for n := 1; n <= 22; n++ {
		for _, around := range []func(ast.Expr) ast.Expr{
			func(e ast.Expr) ast.Expr { return op("neg", e) },
			func(e ast.Expr) ast.Expr { return op("+", e, dot("x", "a")) },
			func(e ast.Expr) ast.Expr { return op("*", dot("u", "a"), e) },
		} {
			e := deep(n, around)
			wantTold(t, someVars(), e)
			m, kind, err := check.Expr(someVars(), e)
			if n > 20 && (err != api.ErrArg || kind != 0 || !isZero(m)) || n <= 20 && (err != api.OK || kind != api.Int) {
				t.Errorf("%d within one another: type %d, %d", n, kind, err)
			}
		}
	}
}

// An expression may be small and yet be told half a million times, where its Kids share their memory.
func TestGreatExpressions(t *testing.T) {
	double := func(e ast.Expr) ast.Expr { return op("+", e, e) }
	n, kind, err := check.Expr(nil, deep(20, double))
	if err != api.OK || kind != api.Int {
		t.Fatal(kind, err)
	}
	ends, all := 0, []check.Node{n}
	for len(all) > 0 {
		last := all[len(all)-1]
		all = append(all[:len(all)-1], last.Kids...)
		if len(last.Kids) == 0 {
			ends++
		}
	}
	if ends != 1<<19 || check.Safe(n) || len(check.Uses(n)) != 0 {
		t.Error(ends)
	}
	wantError(t, nil, deep(21, double), api.ErrArg)
	wantError(t, nil, op("and", deep(19, double), num(1)), api.ErrType)
}
