package check_test

import (
	"reflect"
	"testing"

	"tripwire/api"
	"tripwire/ast"
	"tripwire/check"
)

func wantCond(t *testing.T, l []check.Var, text, want string) {
	t.Helper()
	if got, e := check.Cond(l, []ast.Expr{expr(t, text)}); e != api.OK || nodes(got) != want {
		t.Errorf("%q is %s, %d; not %s", text, short(nodes(got)), e, want)
	}
}

// wantNoCond asks for no nodes beside the error, too.
func wantNoCond(t *testing.T, l []check.Var, want api.Errno, where ...ast.Expr) {
	t.Helper()
	if got, e := check.Cond(l, where); e != want || len(got) != 0 {
		t.Errorf("%s: %s, %d; not %d", short(where), short(nodes(got)), e, want)
	}
}

func wantToldCond(t *testing.T, l []check.Var, where ...ast.Expr) {
	t.Helper()
	got, e := check.Cond(l, where)
	if want, x := toldCond(l, where); e != x || len(got) != len(want) || len(got) > 0 && !reflect.DeepEqual(got, want) {
		t.Errorf("%s over %s: %s, %d; not %s, %d", short(where), short(varsText(l)), short(nodes(got)), e, short(nodes(want)), x)
	}
}

func TestCondOfNone(t *testing.T) {
	for _, l := range [][]check.Var{nil, someVars()} {
		for _, where := range [][]ast.Expr{nil, {}, make([]ast.Expr, 0, 3)} {
			if got, e := check.Cond(l, where); e != api.OK || len(got) != 0 {
				t.Error(got, e)
			}
		}
	}
}

// More than one is ErrArg, whatever else is wrong with them.
func TestCondOfMore(t *testing.T) {
	l := someVars()
	for _, e := range []ast.Expr{val(api.Value{Kind: 1}), col("c"), col("zz"), num(1), {}, op("and", num(1), num(2))} {
		for _, other := range []ast.Expr{e, col("d"), col("zz"), {}} {
			wantNoCond(t, l, api.ErrArg, e, other)
			wantNoCond(t, l, api.ErrArg, other, e)
			wantNoCond(t, l, api.ErrArg, e, other, e)
			wantNoCond(t, nil, api.ErrArg, e, other)
		}
	}
	wantNoCond(t, l, api.ErrArg, make([]ast.Expr, 1000)...)
}

func TestCondTakenApart(t *testing.T) {
	l := someVars()
	for text, want := range map[string]string{
		"c": "1.1", "NULL": "NULL", "TRUE": "TRUE", "x.a = 1": "(0.0 = 1)", "NULL + NULL": "(NULL + NULL)",
		"c AND d":                           "1.1, 2.0",
		"d AND c":                           "2.0, 1.1",
		"c AND c":                           "1.1, 1.1",
		"c AND d AND TRUE":                  "1.1, 2.0, TRUE",
		"c AND (d AND TRUE)":                "1.1, 2.0, TRUE",
		"(c AND d) AND (TRUE AND NULL)":     "1.1, 2.0, TRUE, NULL",
		"c AND (d AND (TRUE AND NULL))":     "1.1, 2.0, TRUE, NULL",
		"c AND (d AND TRUE) AND NULL":       "1.1, 2.0, TRUE, NULL",
		"(c AND ((d AND TRUE))) AND FALSE":  "1.1, 2.0, TRUE, FALSE",
		"c OR d":                            "(1.1 or 2.0)",
		"c OR d AND TRUE":                   "(1.1 or (2.0 and TRUE))",
		"c AND d OR TRUE":                   "((1.1 and 2.0) or TRUE)",
		"(c OR d) AND TRUE":                 "(1.1 or 2.0), TRUE",
		"(c OR d AND c) AND (d AND c OR c)": "(1.1 or (2.0 and 1.1)), ((2.0 and 1.1) or 1.1)",
		"NOT (c AND d)":                     "(not (1.1 and 2.0))",
		"NOT c AND NOT d":                   "(not 1.1), (not 2.0)",
		"NOT (c AND d) AND c":               "(not (1.1 and 2.0)), 1.1",
		"(c AND d) IS NULL":                 "(null (1.1 and 2.0))",
		"(c AND d) IS NULL AND d":           "(null (1.1 and 2.0)), 2.0",
		"(c AND d) = TRUE":                  "((1.1 and 2.0) = TRUE)",
		"TRUE = (c AND d) AND c":            "(TRUE = (1.1 and 2.0)), 1.1",
		"x.a + 1 = 2 AND b < e":             "((0.0 + 1) = 2), (0.1 < 2.1)",
	} {
		wantCond(t, l, text, want)
	}
}

func TestCondErrors(t *testing.T) {
	l := someVars()
	for text, want := range map[string]api.Errno{
		"1": api.ErrType, "'s'": api.ErrType, "x.a": api.ErrType, "b": api.ErrType, "NULL + 1": api.ErrType, "- NULL": api.ErrType, "NULL + 's'": api.ErrType, "1 + 1": api.ErrType,
		"zz": api.ErrName, "a": api.ErrName, "zz AND c": api.ErrName, "c AND zz": api.ErrName, "zz + 1": api.ErrName, "c AND 1": api.ErrType, "1 AND c": api.ErrType,
		"c AND (d AND 1)": api.ErrType, "(c AND 1) AND zz": api.ErrType, "zz AND (c AND 1)": api.ErrName, "zz AND 1": api.ErrName, "1 AND zz": api.ErrName, "c + 1": api.ErrType,
	} {
		wantNoCond(t, l, want, expr(t, text))
	}
	for _, e := range []ast.Expr{{}, num(-1), op("and", num(1)), op("and", num(1), num(-1)), op("and", col("zz"), ast.Expr{}), deep(21, func(e ast.Expr) ast.Expr { return op("not", e) })} {
		wantNoCond(t, l, api.ErrArg, e)
	}
}

// shapes are all expressions with n leaves and ands between them, each leaf told by its number from at on.
func shapes(n, at int) []ast.Expr {
	if n == 1 {
		return []ast.Expr{op("=", num(at), num(0))}
	}
	var l []ast.Expr
	for left := 1; left < n; left++ {
		for _, a := range shapes(left, at) {
			for _, b := range shapes(n-left, at+left) {
				l = append(l, op("and", a, b))
			}
		}
	}
	return l
}

// However ands stand within one another, what stands between them is told from the left.
func TestCondOfAllShapes(t *testing.T) {
	want := ""
	for n := 1; n <= 8; n++ {
		if n > 1 {
			want += ", "
		}
		want += "(" + string(rune('0'+n)) + " = 0)"
		for _, e := range shapes(n, 1) {
			got, err := check.Cond(nil, []ast.Expr{e})
			if err != api.OK || len(got) != n || nodes(got) != want {
				t.Errorf("%s is %s, %d", ast.ShowExpr(e), nodes(got), err)
			}
			wantToldCond(t, nil, op("or", e, e))
			wantToldCond(t, nil, op("and", op("not", e), e))
		}
	}
}

// Nineteen ands within one another are as deep as they may stand.
func TestCondDeep(t *testing.T) {
	yes := val(api.Value{Kind: api.Bool, N: 1})
	for n := 1; n <= 20; n++ {
		left, right := yes, yes
		for range n {
			left, right = op("and", left, yes), op("and", yes, right)
		}
		for _, e := range []ast.Expr{left, right} {
			got, err := check.Cond(nil, []ast.Expr{e})
			if n <= 19 && (err != api.OK || len(got) != n+1) || n > 19 && (err != api.ErrArg || len(got) != 0) {
				t.Errorf("%d ands: %d nodes, %d", n, len(got), err)
			}
		}
	}
}
