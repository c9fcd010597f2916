package parse_test

import (
	"fmt"
	"os"
	"reflect"
	"runtime/debug"
	"testing"

	"tripwire/api"
	"tripwire/ast"
	"tripwire/parse"
)

// TestMain lets more garbage stand than is usual: to tell a text by the grammar makes much of it, in small pieces.
func TestMain(m *testing.M) {
	debug.SetGCPercent(800)
	os.Exit(m.Run())
}

func val(v api.Value) ast.Expr { return ast.Expr{Op: "value", V: v} }

func num(n int) ast.Expr { return val(api.Value{Kind: 2, N: n}) }

func str(s string) ast.Expr { return val(api.Value{Kind: 3, S: s}) }

func truth(n int) ast.Expr { return val(api.Value{Kind: 1, N: n}) }

func col(s string) ast.Expr { return ast.Expr{Op: "column", Col: s} }

func dot(v, s string) ast.Expr { return ast.Expr{Op: "column", Var: v, Col: s} }

func op(name string, kids ...ast.Expr) ast.Expr { return ast.Expr{Op: name, Kids: kids} }

func exprs(l ...ast.Expr) []ast.Expr { return l }

func from(l ...ast.Source) []ast.Source { return l }

func sets(l ...ast.Set) []ast.Set { return l }

func acts(l ...ast.Stmt) []ast.Stmt { return l }

func cols(l ...api.Column) []api.Column { return l }

func syntax(at int) api.Fault { return api.Fault{Code: api.ErrSyntax, At: at} }

func long() api.Fault { return api.Fault{Code: api.ErrLong} }

// short is how something is told in a message.
func short(x any) string {
	s := fmt.Sprintf("%+v", x)
	if len(s) <= 400 {
		return s
	}
	return s[:400] + ".. (long)"
}

func same(a, b any) bool { return reflect.DeepEqual(a, b) }

func wantStmt(t *testing.T, text string, want ast.Stmt) {
	t.Helper()
	if got, x := parse.Parse(text); x != (api.Fault{}) || !same(got, want) {
		t.Errorf("%q is read as %s, %v, not as %s", short(text), short(got), x, short(want))
	}
}

func wantExpr(t *testing.T, text string, want ast.Expr) {
	t.Helper()
	if got, x := parse.Expr(text); x != (api.Fault{}) || !same(got, want) {
		t.Errorf("%q is read as %s, %v, not as %s", short(text), short(got), x, short(want))
	}
}

// wantFault asks for the zero statement beside the fault, too.
func wantFault(t *testing.T, text string, want api.Fault) {
	t.Helper()
	if got, x := parse.Parse(text); x != want || !same(got, ast.Stmt{}) {
		t.Errorf("%q is read as %s, %v, not %v", short(text), short(got), x, want)
	}
}

// wantExprFault asks for the zero expression beside the fault, too.
func wantExprFault(t *testing.T, text string, want api.Fault) {
	t.Helper()
	if got, x := parse.Expr(text); x != want || !same(got, ast.Expr{}) {
		t.Errorf("%q is read as %s, %v, not %v", short(text), short(got), x, want)
	}
}

func TestExamples(t *testing.T) {
	wantStmt(t, "DELETE FROM t WHERE a = 1 AND NOT b", ast.Stmt{Kind: 14, Table: "t",
		Where: exprs(op("and", op("=", col("a"), num(1)), op("not", col("b"))))})
	wantFault(t, "DELETE t", syntax(7))
}

// sample is a text, and what it is read as.
type sample struct {
	text string
	s    ast.Stmt
}

// plainSamples has the statements without expressions.
func plainSamples() []sample {
	a := api.Column{Name: "a", Type: 1}
	return []sample{
		{"BEGIN", ast.Stmt{Kind: 1}},
		{"COMMIT", ast.Stmt{Kind: 2}},
		{"ABORT", ast.Stmt{Kind: 3}},
		{"SAVEPOINT p", ast.Stmt{Kind: 4, Name: "p"}},
		{"ROLLBACK TO p", ast.Stmt{Kind: 5, Name: "p"}},
		{"CREATE TABLE t (a BOOL)", ast.Stmt{Kind: 6, Name: "t", Cols: cols(a)}},
		{"CREATE TABLE t (b INT NOT NULL)", ast.Stmt{Kind: 6, Name: "t", Cols: cols(api.Column{Name: "b", Type: 2, NotNull: true})}},
		{"CREATE TABLE u (c TEXT UNIQUE)", ast.Stmt{Kind: 6, Name: "u", Cols: cols(api.Column{Name: "c", Type: 3, Unique: true})}},
		{"CREATE TABLE t (a BOOL NOT NULL UNIQUE)", ast.Stmt{Kind: 6, Name: "t", Cols: cols(api.Column{Name: "a", Type: 1, NotNull: true, Unique: true})}},
		{"CREATE TABLE t (b INT UNIQUE, a BOOL)", ast.Stmt{Kind: 6, Name: "t", Cols: cols(api.Column{Name: "b", Type: 2, Unique: true}, a)}},
		{"CREATE TABLE t (a BOOL, b INT NOT NULL UNIQUE, c TEXT NOT NULL, d TEXT)", ast.Stmt{Kind: 6, Name: "t", Cols: cols(a,
			api.Column{Name: "b", Type: 2, NotNull: true, Unique: true}, api.Column{Name: "c", Type: 3, NotNull: true}, api.Column{Name: "d", Type: 3})}},
		{"CREATE INDEX i ON t (c)", ast.Stmt{Kind: 7, Name: "i", Table: "t", Col: "c"}},
		{"DROP TABLE t", ast.Stmt{Kind: 9, Name: "t"}},
		{"DROP INDEX i", ast.Stmt{Kind: 10, Name: "i"}},
		{"DROP RULE r", ast.Stmt{Kind: 11, Name: "r"}},
	}
}

// actSamples has the acts.
func actSamples() []sample {
	a, b := col("a"), col("b")
	t := ast.Source{Table: "t"}
	return []sample{
		{"INSERT INTO t VALUES (1)", ast.Stmt{Kind: 12, Table: "t", Values: exprs(num(1))}},
		{"INSERT INTO t VALUES (a, 'x')", ast.Stmt{Kind: 12, Table: "t", Values: exprs(a, str("x"))}},
		{"INSERT INTO u VALUES (NULL, a OR b, 3, 4, 5, 6)", ast.Stmt{Kind: 12, Table: "u",
			Values: exprs(val(api.Value{}), op("or", a, b), num(3), num(4), num(5), num(6))}},
		{"INSERT INTO u SELECT * FROM t", ast.Stmt{Kind: 12, Table: "u", From: from(t)}},
		{"INSERT INTO u SELECT a, 1 FROM t, OLD WHERE b", ast.Stmt{Kind: 12, Table: "u", Items: exprs(a, num(1)),
			From: from(t, ast.Source{Kind: 3}), Where: exprs(b)}},
		{"UPDATE t SET a = 1", ast.Stmt{Kind: 13, Table: "t", Sets: sets(ast.Set{Col: "a", E: num(1)})}},
		{"UPDATE t SET a = b = a WHERE b", ast.Stmt{Kind: 13, Table: "t", Sets: sets(ast.Set{Col: "a", E: op("=", b, a)}), Where: exprs(b)}},
		{"UPDATE u SET a = b, b = a, c = NOT a WHERE a < b", ast.Stmt{Kind: 13, Table: "u",
			Sets: sets(ast.Set{Col: "a", E: b}, ast.Set{Col: "b", E: a}, ast.Set{Col: "c", E: op("not", a)}), Where: exprs(op("<", a, b))}},
		{"UPDATE t SET a = 1, a = 2", ast.Stmt{Kind: 13, Table: "t", Sets: sets(ast.Set{Col: "a", E: num(1)}, ast.Set{Col: "a", E: num(2)})}},
		{"DELETE FROM t", ast.Stmt{Kind: 14, Table: "t"}},
		{"DELETE FROM u WHERE a OR b", ast.Stmt{Kind: 14, Table: "u", Where: exprs(op("or", a, b))}},
	}
}

// selectSamples has Selects, with all sources.
func selectSamples() []sample {
	a, t := col("a"), ast.Source{Table: "t"}
	return []sample{
		{"SELECT * FROM t", ast.Stmt{Kind: 15, From: from(t)}},
		{"SELECT * FROM t WHERE a", ast.Stmt{Kind: 15, From: from(t), Where: exprs(a)}},
		{"SELECT a FROM t", ast.Stmt{Kind: 15, Items: exprs(a), From: from(t)}},
		{"SELECT a, a FROM t x WHERE x.a", ast.Stmt{Kind: 15, Items: exprs(a, a), From: from(ast.Source{Table: "t", Var: "x"}), Where: exprs(dot("x", "a"))}},
		{"SELECT 1 * a, a OR 2, - 3, x.b FROM u, t", ast.Stmt{Kind: 15,
			Items: exprs(op("*", num(1), a), op("or", a, num(2)), op("neg", num(3)), dot("x", "b")), From: from(ast.Source{Table: "u"}, t)}},
		{"SELECT * FROM t t, t u, u t", ast.Stmt{Kind: 15,
			From: from(ast.Source{Table: "t", Var: "t"}, ast.Source{Table: "t", Var: "u"}, ast.Source{Table: "u", Var: "t"})}},
		{"SELECT * FROM INSERTED", ast.Stmt{Kind: 15, From: from(ast.Source{Kind: 1})}},
		{"SELECT * FROM DELETED", ast.Stmt{Kind: 15, From: from(ast.Source{Kind: 2})}},
		{"SELECT * FROM OLD", ast.Stmt{Kind: 15, From: from(ast.Source{Kind: 3})}},
		{"SELECT * FROM NEW", ast.Stmt{Kind: 15, From: from(ast.Source{Kind: 4})}},
		{"SELECT * FROM INSERTED i, DELETED d, t WHERE a", ast.Stmt{Kind: 15,
			From: from(ast.Source{Kind: 1, Var: "i"}, ast.Source{Kind: 2, Var: "d"}, t), Where: exprs(a)}},
		{"SELECT a FROM t, OLD o, NEW n", ast.Stmt{Kind: 15, Items: exprs(a), From: from(t, ast.Source{Kind: 3, Var: "o"}, ast.Source{Kind: 4, Var: "n"})}},
	}
}

// ruleSamples has the rules.
func ruleSamples() []sample {
	a := col("a")
	put, del := ast.Stmt{Kind: 12, Table: "u", Values: exprs(num(1))}, ast.Stmt{Kind: 14, Table: "t", Where: exprs(a)}
	set := ast.Stmt{Kind: 13, Table: "u", Sets: sets(ast.Set{Col: "a", E: num(2)}, ast.Set{Col: "b", E: a}), Where: exprs(a)}
	all := ast.Stmt{Kind: 12, Table: "u", From: from(ast.Source{Kind: 1, Var: "n"}), Where: exprs(a)}
	return []sample{
		{"CREATE RULE r PRIORITY 0 ON INSERT TO t ALWAYS DO ROLLBACK", ast.Stmt{Kind: 8, Name: "r", Event: 1, Table: "t", Rolls: true}},
		{"CREATE RULE r PRIORITY 999 ON DELETE TO u ALWAYS DO ROLLBACK", ast.Stmt{Kind: 8, Name: "r", Priority: 999, Event: 2, Table: "u", Rolls: true}},
		{"CREATE RULE s PRIORITY 007 ON UPDATE TO t DEFERRED ALWAYS DO ROLLBACK", ast.Stmt{Kind: 8, Name: "s", Priority: 7, Event: 3, Table: "t", Deferred: true, Rolls: true}},
		{"CREATE RULE r PRIORITY 1 ON INSERT TO t ALWAYS DO INSERT INTO u VALUES (1) END", ast.Stmt{Kind: 8, Name: "r", Priority: 1, Event: 1, Table: "t", Acts: acts(put)}},
		{"CREATE RULE r PRIORITY 1 ON INSERT TO t DEFERRED ALWAYS DO DELETE FROM t WHERE a; INSERT INTO u VALUES (1) END",
			ast.Stmt{Kind: 8, Name: "r", Priority: 1, Event: 1, Table: "t", Deferred: true, Acts: acts(del, put)}},
		{"CREATE RULE r PRIORITY 10 ON DELETE TO t WHEN t DO ROLLBACK",
			ast.Stmt{Kind: 8, Name: "r", Priority: 10, Event: 2, Table: "t", From: from(ast.Source{Table: "t"}), Rolls: true}},
		{"CREATE RULE r PRIORITY 10 ON UPDATE TO t DEFERRED WHEN OLD o, NEW n, u WHERE o.a < n.a DO ROLLBACK",
			ast.Stmt{Kind: 8, Name: "r", Priority: 10, Event: 3, Table: "t", Deferred: true, Rolls: true,
				From:  from(ast.Source{Kind: 3, Var: "o"}, ast.Source{Kind: 4, Var: "n"}, ast.Source{Table: "u"}),
				Where: exprs(op("<", dot("o", "a"), dot("n", "a")))}},
		{"CREATE RULE r PRIORITY 2 ON INSERT TO t WHEN INSERTED WHERE a OR a DO UPDATE u SET a = 2, b = a WHERE a; DELETE FROM t WHERE a END",
			ast.Stmt{Kind: 8, Name: "r", Priority: 2, Event: 1, Table: "t", From: from(ast.Source{Kind: 1}), Where: exprs(op("or", a, a)), Acts: acts(set, del)}},
		{"CREATE RULE r PRIORITY 2 ON INSERT TO t WHEN DELETED d DO INSERT INTO u SELECT * FROM INSERTED n WHERE a; DELETE FROM t WHERE a; UPDATE u SET a = 2, b = a WHERE a; INSERT INTO u VALUES (1) END",
			ast.Stmt{Kind: 8, Name: "r", Priority: 2, Event: 1, Table: "t", From: from(ast.Source{Kind: 2, Var: "d"}), Acts: acts(all, del, set, put)}},
	}
}

func samples() []sample {
	l := append(plainSamples(), actSamples()...)
	l = append(l, selectSamples()...)
	return append(l, ruleSamples()...)
}

func TestEachWayOfEachRule(t *testing.T) {
	for _, x := range samples() {
		wantStmt(t, x.text, x.s)
		wantStmt(t, ast.Show(x.s), x.s)
	}
}

// A rule's acts are what they are alone, each of them at each place, with each other one behind it.
func TestActsWithinRules(t *testing.T) {
	rule := ast.Stmt{Kind: 8, Name: "r", Priority: 3, Event: 3, Table: "t"}
	for _, x := range actSamples() {
		rule.Acts = acts(x.s)
		wantStmt(t, "CREATE RULE r PRIORITY 3 ON UPDATE TO t ALWAYS DO "+x.text+" END", rule)
		for _, y := range actSamples() {
			rule.Acts = acts(x.s, y.s)
			wantStmt(t, "CREATE RULE r PRIORITY 3 ON UPDATE TO t ALWAYS DO "+x.text+";"+y.text+" END", rule)
			rule.Acts = acts(y.s, y.s, x.s, y.s)
			wantStmt(t, "CREATE RULE r PRIORITY 3 ON UPDATE TO t ALWAYS DO "+y.text+" ; "+y.text+";"+x.text+"\n;"+y.text+" END", rule)
		}
	}
}

// Selects are the same within an Insert.
func TestSelectsWithinInserts(t *testing.T) {
	for _, x := range selectSamples() {
		s := x.s
		s.Kind, s.Table = 12, "u"
		wantStmt(t, "INSERT INTO u "+x.text, s)
	}
}

// Whatever stands for a name is read as it is, also the longest one, and one that a word is like.
func TestNames(t *testing.T) {
	for _, n := range []string{"a", "z9_", "abcdefghijklmnop", "begin", "select", "null", "true", "int", "old", "end", "not", "value"} {
		wantStmt(t, "SAVEPOINT "+n, ast.Stmt{Kind: 4, Name: n})
		wantStmt(t, "ROLLBACK TO "+n, ast.Stmt{Kind: 5, Name: n})
		wantStmt(t, "DROP RULE "+n, ast.Stmt{Kind: 11, Name: n})
		wantStmt(t, "CREATE INDEX "+n+" ON "+n+"("+n+")", ast.Stmt{Kind: 7, Name: n, Table: n, Col: n})
		wantStmt(t, "CREATE TABLE "+n+"("+n+" TEXT)", ast.Stmt{Kind: 6, Name: n, Cols: cols(api.Column{Name: n, Type: 3})})
		wantStmt(t, "SELECT "+n+"."+n+" FROM "+n+" "+n, ast.Stmt{Kind: 15, Items: exprs(dot(n, n)), From: from(ast.Source{Table: n, Var: n})})
		wantStmt(t, "UPDATE "+n+" SET "+n+"="+n, ast.Stmt{Kind: 13, Table: n, Sets: sets(ast.Set{Col: n, E: col(n)})})
		wantStmt(t, "CREATE RULE "+n+" PRIORITY 5 ON INSERT TO "+n+" WHEN NEW "+n+" DO ROLLBACK",
			ast.Stmt{Kind: 8, Name: n, Priority: 5, Event: 1, Table: n, From: from(ast.Source{Kind: 4, Var: n}), Rolls: true})
		wantExpr(t, n, col(n))
	}
}
