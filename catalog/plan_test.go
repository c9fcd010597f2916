package catalog_test

import (
	"fmt"
	"reflect"
	"strings"
	"testing"

	"tripwire/api"
	"tripwire/ast"
	"tripwire/catalog"
	"tripwire/check"
	"tripwire/value"
)

// node is how a node is told: a column by its two numbers, all else as an expression's text is. A field that the Op has
// no use for, and that isn't zero, is told too.
func node(n check.Node) string {
	rest := n
	rest.Op, rest.Kids = "", nil
	text := ""
	switch {
	case n.Op == "value":
		rest.V = api.Value{}
		text = value.Show(n.V)
	case n.Op == "column":
		rest.Var, rest.Col = 0, 0
		text = fmt.Sprintf("%d.%d", n.Var, n.Col)
	case len(n.Kids) == 1:
		text = "(" + n.Op + " " + node(n.Kids[0]) + ")"
	case len(n.Kids) == 2:
		text = "(" + node(n.Kids[0]) + " " + n.Op + " " + node(n.Kids[1]) + ")"
	default:
		return fmt.Sprintf("%+v", n)
	}
	if !reflect.DeepEqual(rest, check.Node{}) || len(n.Kids) > 0 && (n.Op == "value" || n.Op == "column") {
		return fmt.Sprintf("%s with %+v", text, n)
	}
	return text
}

// listed is the texts of a list, with commas between.
func listed[T any](l []T, text func(T) string) string {
	var texts []string
	for _, x := range l {
		texts = append(texts, text(x))
	}
	return strings.Join(texts, ", ")
}

func variable(v check.Var) string {
	of := fmt.Sprint(v.Source.Kind) + v.Source.Table
	if v.Source.Var != "" {
		of += "." + v.Source.Var
	}
	return fmt.Sprintf("%s of %s (%s)", v.Name, of, listed(v.Cols, func(c api.Column) string { return c.Name }))
}

// plan is how a plan is told: its Kind and Table, Vars, Items, Sets, Cond, with lines between.
func plan(p catalog.Plan) string {
	return fmt.Sprintf("%d %s | %s | %s | %s | %s", p.Kind, p.Table, listed(p.Vars, variable), listed(p.Items, node),
		listed(p.Sets, func(n int) string { return fmt.Sprint(n) }), listed(p.Cond, node))
}

// someTables are those of most tests here.
func someTables() catalog.Catalog {
	return made("CREATE TABLE t (a INT, b TEXT NOT NULL)", "CREATE TABLE u (a INT UNIQUE)", "CREATE TABLE w (d BOOL, e TEXT, f INT)")
}

func wantPlan(t *testing.T, c catalog.Catalog, own, text, want string) {
	t.Helper()
	was := whole(c)
	p, e := catalog.Compile(c, read(text), own)
	if e != api.OK || plan(p) != want {
		t.Errorf("%s: %d\n%s\nnot\n%s", text, e, plan(p), want)
	}
	if whole(c) != was {
		t.Errorf("%s: the catalog that was handed in has become another", text)
	}
}

// wantNoPlan asks for the zero plan beside the error, too.
func wantNoPlan(t *testing.T, c catalog.Catalog, own string, s ast.Stmt, want api.Errno) {
	t.Helper()
	p, e := catalog.Compile(c, s, own)
	if e != want || !reflect.DeepEqual(p, catalog.Plan{}) {
		t.Errorf("%s as an act of %q: %d beside %s, not %d", short(s), own, e, short(p), want)
	}
}

// wantCompileErrors asks for an error of each text, line by line: the error's number, a blank, the text.
func wantCompileErrors(t *testing.T, c catalog.Catalog, own, lines string) {
	t.Helper()
	for _, line := range strings.Split(strings.TrimSpace(lines), "\n") {
		var e int
		if _, err := fmt.Sscan(line, &e); err != nil {
			t.Fatal(line, err)
		}
		_, text, _ := strings.Cut(strings.TrimSpace(line), " ")
		wantNoPlan(t, c, own, read(text), api.Errno(e))
	}
}

func TestPlansOfSelects(t *testing.T) {
	c := someTables()
	wantPlan(t, c, "", "SELECT * FROM t", "15  | t of 0t (a, b) | 0.0, 0.1 |  | ")
	wantPlan(t, c, "", "SELECT * FROM t, u x, w", "15  | t of 0t (a, b), x of 0u.x (a), w of 0w (d, e, f) | 0.0, 0.1, 1.0, 2.0, 2.1, 2.2 |  | ")
	wantPlan(t, c, "", "SELECT * FROM u x, t, u", "15  | x of 0u.x (a), t of 0t (a, b), u of 0u (a) | 0.0, 1.0, 1.1, 2.0 |  | ")
	wantPlan(t, c, "", "SELECT b FROM t", "15  | t of 0t (a, b) | 0.1 |  | ")
	wantPlan(t, c, "", "SELECT 'x', b, b + 's', NULL, a < 3, 1 FROM t", "15  | t of 0t (a, b) | 'x', 0.1, (0.1 + 's'), NULL, (0.0 < 3), 1 |  | ")
	wantPlan(t, c, "", "SELECT x.a, b, f, u.a FROM u, w, t x WHERE u.a = x.a AND (d OR f > 1) AND (NOT d AND e IS NULL)",
		"15  | u of 0u (a), w of 0w (d, e, f), x of 0t.x (a, b) | 2.0, 2.1, 1.2, 0.0 |  | (0.0 = 2.0), (1.0 or (1.2 > 1)), (not 1.0), (null 1.1)")
	wantPlan(t, c, "", "SELECT 1 FROM t WHERE NULL", "15  | t of 0t (a, b) | 1 |  | NULL")
	wantPlan(t, c, "", "SELECT 1 FROM w WHERE d", "15  | w of 0w (d, e, f) | 1 |  | 0.0")
	wantPlan(t, c, "t", "SELECT * FROM NEW, OLD o", "15  | new of 4 (a, b), o of 3.o (a, b) | 0.0, 0.1, 1.0, 1.1 |  | ")
	wantPlan(t, c, "w", "SELECT inserted.d, t.b FROM t, INSERTED WHERE f = a", "15  | t of 0t (a, b), inserted of 1 (d, e, f) | 1.0, 0.1 |  | (1.2 = 0.0)")
	wantCompileErrors(t, c, "", `
		2 SELECT * FROM x
		2 SELECT * FROM t, x
		2 SELECT * FROM NEW
		3 SELECT * FROM t, t
		3 SELECT * FROM t, u t
		2 SELECT z FROM t
		2 SELECT a FROM t, u
		2 SELECT w.a FROM t, w
		2 SELECT 1, 2, x.a FROM t
		4 SELECT a + b FROM t
		4 SELECT -b FROM t
		2 SELECT * FROM t WHERE z = 1
		4 SELECT * FROM t WHERE a
		4 SELECT * FROM t WHERE a = b`)
	wantCompileErrors(t, c, "x", `
		2 SELECT * FROM NEW
		2 SELECT * FROM t, DELETED`)
	wantPlan(t, c, "x", "SELECT * FROM u", "15  | u of 0u (a) | 0.0 |  | ")
}

func TestPlansOfInserts(t *testing.T) {
	c := someTables()
	wantPlan(t, c, "", "INSERT INTO t VALUES (1, 'x')", "12 t |  | 1, 'x' |  | ")
	wantPlan(t, c, "", "INSERT INTO t VALUES (NULL, NULL)", "12 t |  | NULL, NULL |  | ")
	wantPlan(t, c, "t", "INSERT INTO t VALUES (1 + 2 * 3, 'x' + 'y')", "12 t |  | (1 + (2 * 3)), ('x' + 'y') |  | ")
	wantPlan(t, c, "", "INSERT INTO t VALUES (-1, NULL + NULL)", "12 t |  | (neg 1), (NULL + NULL) |  | ")
	wantPlan(t, c, "", "INSERT INTO w VALUES (1 < 2 AND NULL, NULL, 3)", "12 w |  | ((1 < 2) and NULL), NULL, 3 |  | ")
	wantPlan(t, c, "", "INSERT INTO t SELECT * FROM t", "12 t | t of 0t (a, b) | 0.0, 0.1 |  | ")
	wantPlan(t, c, "", "INSERT INTO t SELECT f, e FROM w WHERE d AND f > 1", "12 t | w of 0w (d, e, f) | 0.2, 0.1 |  | 0.0, (0.2 > 1)")
	wantPlan(t, c, "", "INSERT INTO u SELECT x.a FROM u, t x", "12 u | u of 0u (a), x of 0t.x (a, b) | 1.0 |  | ")
	wantPlan(t, c, "", "INSERT INTO t SELECT NULL, 's' FROM u", "12 t | u of 0u (a) | NULL, 's' |  | ")
	wantPlan(t, c, "t", "INSERT INTO t SELECT * FROM INSERTED", "12 t | inserted of 1 (a, b) | 0.0, 0.1 |  | ")
	wantPlan(t, c, "u", "INSERT INTO u SELECT * FROM OLD WHERE a = 1", "12 u | old of 3 (a) | 0.0 |  | (0.0 = 1)")
	two := wantApplied(t, c, "CREATE TABLE x (p INT, q INT, r TEXT)")
	wantPlan(t, two, "", "INSERT INTO x SELECT * FROM u, t", "12 x | u of 0u (a), t of 0t (a, b) | 0.0, 1.0, 1.1 |  | ")
	wantCompileErrors(t, two, "", `
		4 INSERT INTO x SELECT * FROM t, u
		15 INSERT INTO x SELECT * FROM t
		15 INSERT INTO x SELECT * FROM t, t y`)
	wantCompileErrors(t, c, "", `
		2 INSERT INTO x VALUES (1)
		2 INSERT INTO x SELECT * FROM t
		15 INSERT INTO t VALUES (1)
		15 INSERT INTO t VALUES (1, 'x', 2)
		15 INSERT INTO t VALUES ('x')
		15 INSERT INTO t VALUES (1, 'x', 1, 1, 1, 1)
		4 INSERT INTO t VALUES ('x', 1)
		4 INSERT INTO t VALUES (1, 1)
		4 INSERT INTO t VALUES (TRUE, 'x')
		4 INSERT INTO t VALUES (NULL, 1)
		4 INSERT INTO w VALUES (1, 'x', 1)
		4 INSERT INTO w VALUES (TRUE, 'x', FALSE)
		4 INSERT INTO w VALUES (NULL IS NULL, 'x' + NULL, 1 = 1)
		2 INSERT INTO t VALUES (a, 'x')
		2 INSERT INTO t VALUES (t.a, 'x')
		2 INSERT INTO t SELECT * FROM x
		3 INSERT INTO t SELECT * FROM u, u
		2 INSERT INTO t SELECT * FROM NEW
		2 INSERT INTO t SELECT z, b FROM t
		2 INSERT INTO t SELECT * FROM t WHERE z
		4 INSERT INTO t SELECT * FROM t WHERE b
		15 INSERT INTO t SELECT a FROM t
		15 INSERT INTO t SELECT a, b, b FROM t
		15 INSERT INTO t SELECT * FROM u
		15 INSERT INTO u SELECT * FROM u, u x
		4 INSERT INTO t SELECT b, a FROM t
		4 INSERT INTO t SELECT a, a FROM t
		4 INSERT INTO t SELECT * FROM u, u x`)
}

// Of several errors of an Insert the first one counts: the table, each expression or Vars, Items, Cond, how many, then each type.
func TestWhichErrorOfAnInsertComesFirst(t *testing.T) {
	wantCompileErrors(t, someTables(), "", `
		2 INSERT INTO x VALUES (1 + 'x')
		4 INSERT INTO t VALUES (1 + 'x', z, 3)
		2 INSERT INTO t VALUES (z, 1 + 'x', 3)
		2 INSERT INTO t VALUES (z)
		4 INSERT INTO t VALUES (1 + 'x')
		2 INSERT INTO t VALUES ('x', z)
		15 INSERT INTO t VALUES ('x', 1, 1)
		2 INSERT INTO x SELECT * FROM t, t
		3 INSERT INTO t SELECT z FROM t, t, x WHERE a
		2 INSERT INTO t SELECT z FROM t, x, t WHERE a
		2 INSERT INTO t SELECT z, 1 + 'x' FROM t WHERE a
		4 INSERT INTO t SELECT 1 + 'x', z FROM t WHERE z = 1
		4 INSERT INTO t SELECT 'x', 1, 1 FROM t WHERE a
		2 INSERT INTO t SELECT 'x', 1, 1 FROM t WHERE z
		15 INSERT INTO t SELECT 'x', 1, 1 FROM t WHERE a = 1`)
}

func TestWhichErrorOfASelectComesFirst(t *testing.T) {
	wantCompileErrors(t, someTables(), "", `
		2 SELECT 1 + 'x' FROM x, t, t
		3 SELECT z FROM t, t, x WHERE a
		2 SELECT z, 1 + 'x' FROM t WHERE a
		4 SELECT 1 + 'x', z FROM t WHERE z
		4 SELECT 1 + 'x' FROM t WHERE z
		2 SELECT z FROM t WHERE a
		4 SELECT * FROM t WHERE a`)
}

func TestPlansOfUpdates(t *testing.T) {
	c := someTables()
	wantPlan(t, c, "", "UPDATE t SET a = 1", "13 t | t of 0t (a, b) | 1 | 0 | ")
	wantPlan(t, c, "", "UPDATE t SET b = 'y', a = a + 1 WHERE a > 0 AND b = 'x'", "13 t | t of 0t (a, b) | 'y', (0.0 + 1) | 1, 0 | (0.0 > 0), (0.1 = 'x')")
	wantPlan(t, c, "", "UPDATE w SET f = NULL, d = NOT w.d, e = NULL + NULL WHERE w.d", "13 w | w of 0w (d, e, f) | NULL, (not 0.0), (NULL + NULL) | 2, 0, 1 | 0.0")
	wantPlan(t, c, "t", "UPDATE w SET e = e", "13 w | w of 0w (d, e, f) | 0.1 | 1 | ")
	wantPlan(t, c, "no", "UPDATE t SET b = NULL WHERE TRUE", "13 t | t of 0t (a, b) | NULL | 1 | TRUE")
	wantCompileErrors(t, c, "t", `
		2 UPDATE x SET a = 1
		2 UPDATE t SET z = 1
		2 UPDATE t SET a = 1, z = 1
		2 UPDATE t SET a = z
		2 UPDATE t SET a = new.a
		2 UPDATE t SET a = u.a
		3 UPDATE t SET a = 1, a = 2
		3 UPDATE t SET a = 1, b = 'x', a = 1
		4 UPDATE t SET a = 'x'
		4 UPDATE t SET a = b
		4 UPDATE t SET b = a
		4 UPDATE t SET a = a = 1
		4 UPDATE t SET a = a + 'x'
		4 UPDATE w SET d = 1
		4 UPDATE t SET a = 1 WHERE a
		2 UPDATE t SET a = 1 WHERE z = 1
		2 UPDATE t SET a = 1 WHERE old.a = 1`)
}

// Of several errors of an Update the first one counts: set by set, each with all of its own.
func TestWhichErrorOfAnUpdateComesFirst(t *testing.T) {
	wantCompileErrors(t, someTables(), "", `
		2 UPDATE x SET a = 1 + 'x'
		2 UPDATE t SET z = 1 + 'x', a = 1, a = 2
		3 UPDATE t SET a = 1, a = 1 + 'x', z = 1
		3 UPDATE t SET a = 1, a = z, z = 1
		2 UPDATE t SET a = z, a = 1, b = 2
		4 UPDATE t SET a = 'x', a = 1, z = 1
		4 UPDATE t SET a = 1 + 'x', z = 1
		3 UPDATE t SET b = 'x', b = 1, z = 1 WHERE z
		2 UPDATE t SET b = 'x', z = 1, b = 1 WHERE a
		4 UPDATE t SET b = 1 WHERE z
		3 UPDATE t SET b = 's', b = 's' WHERE z
		2 UPDATE t SET b = z WHERE a
		4 UPDATE t SET b = 's' WHERE a
		2 UPDATE t SET b = 's' WHERE z`)
}

func TestPlansOfDeletes(t *testing.T) {
	c := someTables()
	wantPlan(t, c, "", "DELETE FROM t", "14 t | t of 0t (a, b) |  |  | ")
	wantPlan(t, c, "t", "DELETE FROM w WHERE w.d AND f = 1", "14 w | w of 0w (d, e, f) |  |  | 0.0, (0.2 = 1)")
	wantCompileErrors(t, c, "t", `
		2 DELETE FROM x
		2 DELETE FROM x WHERE 1
		2 DELETE FROM t WHERE z
		2 DELETE FROM t WHERE u.a = 1
		2 DELETE FROM t WHERE new.a = 1
		4 DELETE FROM t WHERE a
		4 DELETE FROM t WHERE b + 1 = 'x'`)
}

// A source of a table that is the rule's is that table, not a transition; a transition's rows are of the rule's table alone.
func TestActs(t *testing.T) {
	c := someTables()
	for _, own := range []string{"", "t", "w", "no"} {
		wantPlan(t, c, own, "SELECT t.a, x.a FROM t, t x", "15  | t of 0t (a, b), x of 0t.x (a, b) | 0.0, 1.0 |  | ")
	}
	for i, kind := range []string{"INSERTED", "DELETED", "OLD", "NEW"} {
		for own, cols := range map[string]string{"t": "a, b", "w": "d, e, f"} {
			want := fmt.Sprintf("%s of %d (%s)", strings.ToLower(kind), i+1, cols)
			wantPlan(t, c, own, "SELECT 1 FROM "+kind, "15  | "+want+" | 1 |  | ")
			wantPlan(t, c, own, "INSERT INTO u SELECT 1 FROM "+kind, "12 u | "+want+" | 1 |  | ")
			wantPlan(t, c, own, "INSERT INTO u SELECT 1 FROM u, "+kind+" x", fmt.Sprintf("12 u | u of 0u (a), x of %d.x (%s) | 1 |  | ", i+1, cols))
		}
		wantCompileErrors(t, c, "no", "2 SELECT 1 FROM "+kind+"\n2 INSERT INTO u SELECT 1 FROM "+kind)
		wantCompileErrors(t, c, "", "2 SELECT 1 FROM "+kind+"\n2 INSERT INTO u SELECT 1 FROM "+kind)
	}
}

func TestStatementsWithoutAPlan(t *testing.T) {
	c := someTables()
	texts := []string{"BEGIN", "COMMIT", "ABORT", "SAVEPOINT t", "ROLLBACK TO t", "CREATE TABLE x (a INT)", "CREATE INDEX i ON t (a)", "CREATE RULE r PRIORITY 1 ON INSERT TO t WHEN NEW DO ROLLBACK", "CREATE RULE r PRIORITY 1 ON INSERT TO t ALWAYS DO DELETE FROM t END", "DROP TABLE t", "DROP INDEX i", "DROP RULE r"}
	for _, text := range texts {
		for _, own := range []string{"", "t"} {
			wantNoPlan(t, c, own, read(text), api.ErrArg)
		}
	}
	wrong := map[string]func(s *ast.Stmt){
		"SELECT * FROM t":               func(s *ast.Stmt) { s.Table = "t" },
		"SELECT a FROM t":               func(s *ast.Stmt) { s.From = nil },
		"SELECT * FROM x":               func(s *ast.Stmt) { s.From = append(s.From, s.From[0], s.From[0], s.From[0]) },
		"SELECT b FROM t":               func(s *ast.Stmt) { s.Items[0].Kids = s.Items },
		"INSERT INTO x VALUES (1)":      func(s *ast.Stmt) { s.Where = s.Values },
		"INSERT INTO t VALUES (1, 'x')": func(s *ast.Stmt) { s.Values = nil },
		"INSERT INTO w VALUES (1)":      func(s *ast.Stmt) { s.Values[0].V.N = -1 },
		"INSERT INTO t SELECT * FROM t": func(s *ast.Stmt) { s.Table = "" },
		"UPDATE t SET a = 1":            func(s *ast.Stmt) { s.Sets = nil },
		"UPDATE x SET a = 1":            func(s *ast.Stmt) { s.Sets[0].Col = "" },
		"DELETE FROM t":                 func(s *ast.Stmt) { s.Name = "t" },
		"DELETE FROM x WHERE a = 1":     func(s *ast.Stmt) { s.Where = append(s.Where, s.Where...) },
		"DELETE FROM t WHERE a = 1":     func(s *ast.Stmt) { s.Where[0].Op = "==" },
	}
	for text, change := range wrong {
		s := read(text)
		change(&s)
		wantNoPlan(t, c, "t", s, api.ErrArg)
		wantNoPlan(t, catalog.Catalog{}, "", s, api.ErrArg)
	}
	for kind := -2; kind <= 18; kind++ {
		wantNoPlan(t, c, "t", ast.Stmt{Kind: kind}, api.ErrArg)
		if kind < 12 || kind > 15 {
			wantNoPlan(t, c, "t", ast.Stmt{Kind: kind, Table: "t"}, api.ErrArg)
			wantNoPlan(t, c, "t", ast.Stmt{Kind: kind, Name: "t"}, api.ErrArg)
		}
	}
	wantCompileErrors(t, catalog.Catalog{}, "t", `
		2 SELECT 1 FROM t
		2 SELECT 1 FROM NEW
		2 INSERT INTO t VALUES (1)
		2 UPDATE t SET a = 1
		2 DELETE FROM t`)
}
