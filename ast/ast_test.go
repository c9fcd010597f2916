package ast_test

import (
	"fmt"
	"slices"
	"strings"
	"testing"

	"tripwire/api"
	"tripwire/ast"
)

func val(v api.Value) ast.Expr { return ast.Expr{Op: "value", V: v} }

func num(n int) ast.Expr { return val(api.Value{Kind: 2, N: n}) }

func str(s string) ast.Expr { return val(api.Value{Kind: 3, S: s}) }

func col(s string) ast.Expr { return ast.Expr{Op: "column", Col: s} }

func dot(v, s string) ast.Expr { return ast.Expr{Op: "column", Var: v, Col: s} }

func op(name string, kids ...ast.Expr) ast.Expr { return ast.Expr{Op: name, Kids: kids} }

func exprs(l ...ast.Expr) []ast.Expr { return l }

func from(l ...ast.Source) []ast.Source { return l }

func sets(l ...ast.Set) []ast.Set { return l }

func acts(l ...ast.Stmt) []ast.Stmt { return l }

// short is how something is told in a message.
func short(x any) string {
	s := fmt.Sprintf("%+v", x)
	if len(s) <= 400 {
		return s
	}
	return s[:400] + ".. (long)"
}

func wantStmt(t *testing.T, s ast.Stmt, text string) {
	t.Helper()
	if !ast.Right(s) {
		t.Errorf("%s isn't right", short(s))
	}
	if got := ast.Show(s); got != text {
		t.Errorf("%q, not %q", short(got), short(text))
	}
}

func wantWrong(t *testing.T, s ast.Stmt) {
	t.Helper()
	if ast.Right(s) {
		t.Errorf("%s is right", short(s))
	}
	if got := ast.Show(s); got != "" {
		t.Errorf("%s, which isn't right, has the text %q", short(s), short(got))
	}
}

// asWanted takes a statement as right or not.
func asWanted(t *testing.T, right bool, s ast.Stmt) {
	t.Helper()
	if !right {
		wantWrong(t, s)
	} else if !ast.Right(s) || ast.Show(s) == "" {
		t.Errorf("%s isn't right, or has no text", short(s))
	}
}

// place is a statement with an expression somewhere in it, whose text stands for the @.
type place struct {
	text string
	of   func(e ast.Expr) ast.Stmt
}

// places has one of each list of expressions of each Kind, and others deep in rules.
func places() []place {
	t, u := from(ast.Source{Table: "t"}), from(ast.Source{Table: "u"}, ast.Source{Kind: 1, Var: "v"})
	always := func(l ...ast.Stmt) ast.Stmt {
		return ast.Stmt{Kind: 8, Name: "r", Event: 1, Table: "t", Acts: l}
	}
	return []place{
		{"INSERT INTO t VALUES (@)", func(e ast.Expr) ast.Stmt { return ast.Stmt{Kind: 12, Table: "t", Values: exprs(e)} }},
		{"INSERT INTO t VALUES (1, 2, 3, 4, 5, @)", func(e ast.Expr) ast.Stmt {
			return ast.Stmt{Kind: 12, Table: "t", Values: exprs(num(1), num(2), num(3), num(4), num(5), e)}
		}},
		{"INSERT INTO t SELECT @, 1 FROM t", func(e ast.Expr) ast.Stmt {
			return ast.Stmt{Kind: 12, Table: "t", Items: exprs(e, num(1)), From: t}
		}},
		{"INSERT INTO t SELECT * FROM u, INSERTED v WHERE @", func(e ast.Expr) ast.Stmt {
			return ast.Stmt{Kind: 12, Table: "t", From: u, Where: exprs(e)}
		}},
		{"UPDATE t SET a = @", func(e ast.Expr) ast.Stmt { return ast.Stmt{Kind: 13, Table: "t", Sets: sets(ast.Set{Col: "a", E: e})} }},
		{"UPDATE t SET a = 1, b = @, c = 2 WHERE a", func(e ast.Expr) ast.Stmt {
			l := sets(ast.Set{Col: "a", E: num(1)}, ast.Set{Col: "b", E: e}, ast.Set{Col: "c", E: num(2)})
			return ast.Stmt{Kind: 13, Table: "t", Sets: l, Where: exprs(col("a"))}
		}},
		{"UPDATE t SET a = 1 WHERE @", func(e ast.Expr) ast.Stmt {
			return ast.Stmt{Kind: 13, Table: "t", Sets: sets(ast.Set{Col: "a", E: num(1)}), Where: exprs(e)}
		}},
		{"DELETE FROM t WHERE @", func(e ast.Expr) ast.Stmt { return ast.Stmt{Kind: 14, Table: "t", Where: exprs(e)} }},
		{"SELECT @ FROM t", func(e ast.Expr) ast.Stmt { return ast.Stmt{Kind: 15, Items: exprs(e), From: t} }},
		{"SELECT 1, @, 2 FROM u, INSERTED v", func(e ast.Expr) ast.Stmt {
			return ast.Stmt{Kind: 15, Items: exprs(num(1), e, num(2)), From: u}
		}},
		{"SELECT * FROM t WHERE @", func(e ast.Expr) ast.Stmt { return ast.Stmt{Kind: 15, From: t, Where: exprs(e)} }},
		{"CREATE RULE r PRIORITY 0 ON INSERT TO t WHEN t WHERE @ DO ROLLBACK", func(e ast.Expr) ast.Stmt {
			return ast.Stmt{Kind: 8, Name: "r", Event: 1, Table: "t", From: t, Where: exprs(e), Rolls: true}
		}},
		{"CREATE RULE r PRIORITY 0 ON INSERT TO t ALWAYS DO DELETE FROM t; DELETE FROM u WHERE @ END", func(e ast.Expr) ast.Stmt {
			return always(ast.Stmt{Kind: 14, Table: "t"}, ast.Stmt{Kind: 14, Table: "u", Where: exprs(e)})
		}},
		{"CREATE RULE r PRIORITY 0 ON INSERT TO t ALWAYS DO INSERT INTO t VALUES (@); DELETE FROM t END", func(e ast.Expr) ast.Stmt {
			return always(ast.Stmt{Kind: 12, Table: "t", Values: exprs(e)}, ast.Stmt{Kind: 14, Table: "t"})
		}},
		{"CREATE RULE r PRIORITY 0 ON INSERT TO t ALWAYS DO UPDATE t SET a = @ END", func(e ast.Expr) ast.Stmt {
			return always(ast.Stmt{Kind: 13, Table: "t", Sets: sets(ast.Set{Col: "a", E: e})})
		}},
	}
}

// wantExpr asks for an expression's text, alone and wherever one may stand.
func wantExpr(t *testing.T, e ast.Expr, text string) {
	t.Helper()
	if !ast.RightExpr(e) {
		t.Errorf("%s isn't right", short(e))
	}
	if got := ast.ShowExpr(e); got != text {
		t.Errorf("%q, not %q", short(got), short(text))
	}
	for _, p := range places() {
		wantStmt(t, p.of(e), strings.Replace(p.text, "@", text, 1))
	}
}

// wantWrongExpr asks that neither an expression is right, nor any that has it, nor any statement that has it.
func wantWrongExpr(t *testing.T, e ast.Expr) {
	t.Helper()
	for _, x := range []ast.Expr{e, op("neg", e), op("null", op("not", e)), op("=", e, num(1)), op("and", num(1), op("or", col("a"), e))} {
		if ast.RightExpr(x) {
			t.Errorf("%s is right", short(x))
		}
		if got := ast.ShowExpr(x); got != "" {
			t.Errorf("%s, which isn't right, has the text %q", short(x), short(got))
		}
	}
	for _, p := range places() {
		wantWrong(t, p.of(e))
	}
}

// names are some, and noNames are texts that are none, but for the empty one.
func names() []string {
	return []string{"a", "z", "a0", "z_9", "null", "select", "a_______________", "abcdefghijklmnop"}
}

func noNames() []string {
	return []string{
		"A", "0", "_", "0a", "_a", "aB", "Ab", "SELECT", "NULL", "a b", " a", "a ", "a.b", "a,b", "a;", "a'", "'a'", "(a)", "a\n", "a\x00", "\x00",
		"\xc3\xa4", "a\xc3\xa4", "a\xff", "a-b", "*", "abcdefghijklmnopq", strings.Repeat("a", 5000),
	}
}

func TestExample(t *testing.T) {
	where := op("and", op("<", col("a"), num(1)), op("null", col("b")))
	wantStmt(t, ast.Stmt{Kind: ast.Delete, Table: "t", Where: exprs(where)}, "DELETE FROM t WHERE ((a < 1) AND (b IS NULL))")
}

func TestKindsRiseFromOne(t *testing.T) {
	l := []int{
		ast.Begin, ast.Commit, ast.Abort, ast.Save, ast.Back, ast.Table, ast.Index, ast.Rule,
		ast.DropTable, ast.DropIndex, ast.DropRule, ast.Insert, ast.Update, ast.Delete, ast.Select,
	}
	if !slices.Equal(l, []int{1, 2, 3, 4, 5, 6, 7, 8, 9, 10, 11, 12, 13, 14, 15}) {
		t.Error(l)
	}
}
