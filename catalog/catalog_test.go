package catalog_test

import (
	"fmt"
	"reflect"
	"strings"
	"testing"

	"tripwire/api"
	"tripwire/ast"
	"tripwire/catalog"
	"tripwire/parse"
)

// short is how something is told in a message.
func short(x any) string {
	s := fmt.Sprintf("%+v", x)
	if len(s) <= 600 {
		return s
	}
	return s[:600] + ".. (long)"
}

// read is the statement that a text is.
func read(text string) ast.Stmt {
	s, x := parse.Parse(text)
	if x != (api.Fault{}) {
		panic(fmt.Sprintf("%q isn't read: %v", text, x))
	}
	return s
}

// made is the catalog that statements make, one by one, from the zero one on.
func made(texts ...string) catalog.Catalog {
	var c catalog.Catalog
	for _, text := range texts {
		d, e := catalog.Apply(c, read(text))
		if e != api.OK {
			panic(fmt.Sprintf("%q: %d", text, e))
		}
		c = d
	}
	return c
}

// tell is a catalog of right statements as text: unlike ones have unlike texts.
func tell(c catalog.Catalog) string {
	var l []string
	for _, t := range c.Tables {
		l = append(l, ast.Show(ast.Stmt{Kind: ast.Table, Name: t.Name, Cols: t.Cols}))
	}
	for _, x := range c.Indexes {
		l = append(l, ast.Show(ast.Stmt{Kind: ast.Index, Name: x.Name, Table: x.Table, Col: x.Col}))
	}
	for _, r := range c.Rules {
		l = append(l, ast.Show(r))
	}
	return strings.Join(l, "\n")
}

// order is the names of what a catalog has.
func order(c catalog.Catalog) string {
	var l [3][]string
	for _, t := range c.Tables {
		l[0] = append(l[0], t.Name)
	}
	for _, x := range c.Indexes {
		l[1] = append(l[1], x.Name)
	}
	for _, r := range c.Rules {
		l[2] = append(l[2], r.Name)
	}
	return strings.Join(l[0], " ") + " | " + strings.Join(l[1], " ") + " | " + strings.Join(l[2], " ")
}

// whole is anything told with all its fields.
func whole(x any) string { return fmt.Sprintf("%#v", x) }

// wantApplied is the catalog behind statements, of which each has no error.
func wantApplied(t *testing.T, c catalog.Catalog, texts ...string) catalog.Catalog {
	t.Helper()
	for _, text := range texts {
		was := whole(c)
		d, e := catalog.Apply(c, read(text))
		if e != api.OK {
			t.Fatalf("%s: %d", text, e)
		}
		if whole(c) != was {
			t.Fatalf("%s: the catalog that was handed in has become another", text)
		}
		c = d
	}
	return c
}

// wantRefused asks for the zero catalog beside the error, too.
func wantRefused(t *testing.T, c catalog.Catalog, s ast.Stmt, want api.Errno) {
	t.Helper()
	was := whole(c)
	d, e := catalog.Apply(c, s)
	if e != want || !reflect.DeepEqual(d, catalog.Catalog{}) {
		t.Errorf("%s: %d beside %s, not %d", short(s), e, short(d), want)
	}
	if whole(c) != was {
		t.Errorf("%s: the catalog that was handed in has become another", short(s))
	}
}

// wantErrors asks for an error of each text, line by line: the error's number, a blank, the text.
func wantErrors(t *testing.T, c catalog.Catalog, lines string) {
	t.Helper()
	for _, line := range strings.Split(strings.TrimSpace(lines), "\n") {
		var e int
		if _, err := fmt.Sscan(line, &e); err != nil {
			t.Fatal(line, err)
		}
		_, text, _ := strings.Cut(strings.TrimSpace(line), " ")
		wantRefused(t, c, read(text), api.Errno(e))
	}
}

func wantOrder(t *testing.T, c catalog.Catalog, want string) {
	t.Helper()
	if order(c) != want {
		t.Errorf("%q, not %q", order(c), want)
	}
}

func wantTold(t *testing.T, c catalog.Catalog, want ...string) {
	t.Helper()
	if tell(c) != strings.Join(want, "\n") {
		t.Errorf("%s\nnot\n%s", tell(c), strings.Join(want, "\n"))
	}
}

func TestExample(t *testing.T) {
	c := made("CREATE TABLE t (a INT)", "CREATE TABLE u (a INT)", "CREATE RULE r PRIORITY 0 ON INSERT TO u ALWAYS DO DELETE FROM t END")
	wantRefused(t, c, read("DROP TABLE t"), api.ErrThere)
}

// All that is made is kept as the statement says it, with each of its parts.
func TestWhatIsMade(t *testing.T) {
	texts := []string{
		"CREATE TABLE t (a INT, b TEXT NOT NULL, c BOOL UNIQUE, d INT NOT NULL UNIQUE)",
		"CREATE TABLE u (a INT)",
		"CREATE INDEX j ON t (b)",
		"CREATE INDEX i ON u (a)",
		"CREATE RULE q PRIORITY 7 ON UPDATE TO t DEFERRED WHEN OLD o, NEW n, u WHERE ((o.a < n.a) AND (u.a = n.d)) DO INSERT INTO u VALUES (1); UPDATE u SET a = (a + 1) WHERE (a > 3); DELETE FROM t WHERE c END",
		"CREATE RULE a PRIORITY 3 ON INSERT TO u WHEN INSERTED DO ROLLBACK",
		"CREATE RULE b PRIORITY 3 ON DELETE TO u ALWAYS DO INSERT INTO u SELECT a FROM DELETED WHERE (a = 1); INSERT INTO u SELECT x.a FROM u x END",
	}
	c := made(texts...)
	wantTold(t, c, texts...)
	if len(c.Tables) != 2 || len(c.Indexes) != 2 || len(c.Rules) != 3 {
		t.Error(order(c))
	}
	if c.Indexes[0] != (catalog.Index{Name: "j", Table: "t", Col: "b"}) {
		t.Error(c.Indexes)
	}
	for i, r := range c.Rules {
		if !reflect.DeepEqual(r, read(texts[4+i])) {
			t.Errorf("%+v", r)
		}
	}
	d := wantApplied(t, c, "DROP INDEX j", "DROP RULE a", "CREATE TABLE v (b BOOL)")
	wantTold(t, d, texts[0], texts[1], "CREATE TABLE v (b BOOL)", texts[3], texts[4], texts[6])
	wantTold(t, c, texts...)
}

// A table, an index and a rule may have one name; so may a column.
func TestNamesOfOtherThings(t *testing.T) {
	c := made("CREATE TABLE t (t INT)", "CREATE INDEX t ON t (t)", "CREATE RULE t PRIORITY 0 ON INSERT TO t WHEN t WHERE t = t.t DO ROLLBACK")
	wantOrder(t, c, "t | t | t")
	wantErrors(t, c, `
		3 CREATE TABLE t (t INT)
		3 CREATE INDEX t ON t (t)
		3 CREATE RULE t PRIORITY 0 ON INSERT TO t ALWAYS DO ROLLBACK`)
	wantOrder(t, wantApplied(t, c, "DROP INDEX t"), "t |  | t")
	wantOrder(t, wantApplied(t, c, "DROP RULE t"), "t | t | ")
	wantOrder(t, wantApplied(t, c, "DROP RULE t", "DROP TABLE t"), " |  | ")
}

func TestErrorsOfApply(t *testing.T) {
	c := made("CREATE TABLE t (a INT, b TEXT)", "CREATE TABLE u (a INT)", "CREATE INDEX i ON t (b)", "CREATE RULE r PRIORITY 1 ON INSERT TO t ALWAYS DO ROLLBACK")
	wantErrors(t, c, `
		3 CREATE TABLE t (a INT, b TEXT)
		3 CREATE TABLE u (z BOOL)
		3 CREATE INDEX i ON t (a)
		3 CREATE INDEX i ON u (a)
		3 CREATE INDEX i ON w (a)
		3 CREATE INDEX i ON t (z)
		2 CREATE INDEX j ON w (a)
		2 CREATE INDEX j ON t (z)
		2 CREATE INDEX j ON u (b)
		3 CREATE RULE r PRIORITY 1 ON INSERT TO t ALWAYS DO ROLLBACK
		3 CREATE RULE r PRIORITY 2 ON DELETE TO w WHEN w DO DELETE FROM w END
		2 CREATE RULE x PRIORITY 1 ON INSERT TO w ALWAYS DO ROLLBACK
		2 CREATE RULE x PRIORITY 1 ON INSERT TO w WHEN NEW n DO ROLLBACK
		2 CREATE RULE x PRIORITY 1 ON INSERT TO t WHEN NEW n WHERE n.z = 1 DO ROLLBACK
		2 CREATE RULE x PRIORITY 1 ON INSERT TO t WHEN w DO ROLLBACK
		3 CREATE RULE x PRIORITY 1 ON INSERT TO t WHEN t, NEW t DO ROLLBACK
		4 CREATE RULE x PRIORITY 1 ON INSERT TO t WHEN NEW n WHERE n.a = 'x' DO ROLLBACK
		4 CREATE RULE x PRIORITY 1 ON INSERT TO t WHEN NEW n WHERE n.a DO ROLLBACK
		2 CREATE RULE x PRIORITY 1 ON INSERT TO t ALWAYS DO DELETE FROM w END
		4 CREATE RULE x PRIORITY 1 ON INSERT TO t ALWAYS DO INSERT INTO u VALUES ('x') END
		15 CREATE RULE x PRIORITY 1 ON INSERT TO t ALWAYS DO INSERT INTO u VALUES (1, 2) END
		3 CREATE RULE x PRIORITY 1 ON INSERT TO t ALWAYS DO UPDATE u SET a = 1, a = 2 END
		2 DROP TABLE w
		2 DROP TABLE i
		2 DROP TABLE r
		2 DROP INDEX t
		2 DROP INDEX r
		2 DROP INDEX j
		2 DROP RULE t
		2 DROP RULE i
		2 DROP RULE x`)
	var none catalog.Catalog
	wantErrors(t, none, `
		2 CREATE INDEX i ON t (a)
		2 CREATE RULE r PRIORITY 1 ON INSERT TO t ALWAYS DO ROLLBACK
		2 DROP TABLE t
		2 DROP INDEX i
		2 DROP RULE r`)
}

// Of several errors of a rule the first one counts: its name, its table, how many there are, When, and then act by act.
func TestWhichErrorOfARuleComesFirst(t *testing.T) {
	c := made("CREATE TABLE t (a INT, b TEXT)", "CREATE TABLE u (a INT)", "CREATE RULE r PRIORITY 1 ON INSERT TO t ALWAYS DO ROLLBACK")
	wantErrors(t, c, `
		3 CREATE RULE r PRIORITY 1 ON INSERT TO w WHEN NEW n WHERE n.a = 'x' DO INSERT INTO u VALUES (1, 2) END
		2 CREATE RULE x PRIORITY 1 ON INSERT TO w WHEN t, NEW t WHERE t.a = 'x' DO INSERT INTO u VALUES (1, 2) END
		3 CREATE RULE x PRIORITY 1 ON INSERT TO t WHEN t, NEW t WHERE t.a = 'x' DO INSERT INTO u VALUES (1, 2) END
		4 CREATE RULE x PRIORITY 1 ON INSERT TO t WHEN NEW n WHERE n.a = 'x' DO INSERT INTO u VALUES (1, 2) END
		15 CREATE RULE x PRIORITY 1 ON INSERT TO t WHEN NEW n WHERE n.b = 'x' DO INSERT INTO u VALUES (1, 2); DELETE FROM w END
		2 CREATE RULE x PRIORITY 1 ON INSERT TO t WHEN NEW n WHERE n.b = 'x' DO DELETE FROM w; INSERT INTO u VALUES (1, 2) END
		4 CREATE RULE x PRIORITY 1 ON INSERT TO t ALWAYS DO DELETE FROM u; DELETE FROM u WHERE a = 1; DELETE FROM u WHERE a; DELETE FROM w END
		2 CREATE RULE x PRIORITY 1 ON INSERT TO t ALWAYS DO DELETE FROM u; DELETE FROM u WHERE a = 1; DELETE FROM u; DELETE FROM w END
		3 CREATE RULE x PRIORITY 1 ON INSERT TO t ALWAYS DO DELETE FROM u; UPDATE t SET b = 'x', a = 1, b = 'y'; DELETE FROM u WHERE a; DELETE FROM w END`)
}

// An act has the transitions of the rule's table, and no variables of its WHEN.
func TestActsOfARule(t *testing.T) {
	c := made("CREATE TABLE t (a INT, b TEXT)", "CREATE TABLE u (c INT)")
	for text, want := range map[string]api.Errno{
		"INSERT INTO u SELECT a FROM NEW":                                             api.OK,
		"INSERT INTO u SELECT n.a FROM INSERTED n":                                    api.OK,
		"INSERT INTO u SELECT c FROM NEW":                                             api.ErrName,
		"INSERT INTO u SELECT b FROM OLD":                                             api.ErrType,
		"INSERT INTO t SELECT * FROM DELETED":                                         api.OK,
		"INSERT INTO u SELECT * FROM DELETED":                                         api.ErrArg,
		"INSERT INTO u VALUES (n.a)":                                                  api.ErrName,
		"UPDATE u SET c = n.a":                                                        api.ErrName,
		"DELETE FROM u WHERE c = n.a":                                                 api.ErrName,
		"DELETE FROM u WHERE u.c = 1":                                                 api.OK,
		"UPDATE t SET b = 'x' WHERE t.a = 1":                                          api.OK,
		"INSERT INTO u SELECT n.a FROM OLD n, NEW m, t WHERE t.b = n.b AND m.a > n.a": api.OK,
	} {
		rule := read("CREATE RULE r PRIORITY 1 ON UPDATE TO t WHEN NEW n WHERE n.a > 0 DO DELETE FROM u; " + text + " END")
		if want == api.OK {
			wantOrder(t, wantApplied(t, c, ast.Show(rule)), "t u |  | r")
			continue
		}
		wantRefused(t, c, rule, want)
	}
}

// Statements that aren't right, and those of Kinds that Apply doesn't take.
func TestOtherStatements(t *testing.T) {
	c := made("CREATE TABLE t (a INT, b TEXT)", "CREATE INDEX i ON t (b)", "CREATE RULE r PRIORITY 1 ON INSERT TO t ALWAYS DO ROLLBACK")
	for _, text := range []string{"BEGIN", "COMMIT", "ABORT", "SAVEPOINT t", "ROLLBACK TO t", "INSERT INTO t VALUES (1, 'x')", "INSERT INTO t SELECT * FROM t", "UPDATE t SET a = 1", "DELETE FROM t", "SELECT * FROM t"} {
		wantRefused(t, c, read(text), api.ErrArg)
		wantRefused(t, catalog.Catalog{}, read(text), api.ErrArg)
	}
	for kind := -2; kind <= 18; kind++ {
		wantRefused(t, c, ast.Stmt{Kind: kind, Table: "t", Priority: -1}, api.ErrArg)
		wantRefused(t, c, ast.Stmt{Kind: kind, Name: "T"}, api.ErrArg)
		wantRefused(t, c, ast.Stmt{Kind: kind, Name: "t", Table: "t", Col: "t", Cols: c.Tables[0].Cols}, api.ErrArg)
		if kind < 1 || kind > 15 {
			wantRefused(t, c, ast.Stmt{Kind: kind}, api.ErrArg)
			wantRefused(t, c, ast.Stmt{Kind: kind, Name: "t"}, api.ErrArg)
		}
	}
	wrong := map[string]func(s *ast.Stmt){
		"CREATE TABLE v (a INT)":                                               func(s *ast.Stmt) { s.Cols = nil },
		"CREATE TABLE w (a INT)":                                               func(s *ast.Stmt) { s.Cols = append(s.Cols, s.Cols...) },
		"CREATE TABLE x (a INT)":                                               func(s *ast.Stmt) { s.Cols[0].Type = 0 },
		"CREATE TABLE t (a INT)":                                               func(s *ast.Stmt) { s.Col = "a" }, // though there is such a table
		"CREATE INDEX j ON w (a)":                                              func(s *ast.Stmt) { s.Rolls = true },
		"CREATE INDEX i ON t (a)":                                              func(s *ast.Stmt) { s.Col = "" },
		"CREATE RULE x PRIORITY 1 ON INSERT TO w ALWAYS DO ROLLBACK":           func(s *ast.Stmt) { s.Priority = 1000 },
		"CREATE RULE r PRIORITY 1 ON INSERT TO t ALWAYS DO ROLLBACK":           func(s *ast.Stmt) { s.Priority = -1 },
		"CREATE RULE y PRIORITY 1 ON INSERT TO t WHEN NEW DO ROLLBACK":         func(s *ast.Stmt) { s.Event = 4 },
		"CREATE RULE z PRIORITY 1 ON INSERT TO t ALWAYS DO DELETE FROM w END":  func(s *ast.Stmt) { s.Acts[0].Kind = ast.Select },
		"CREATE RULE zz PRIORITY 1 ON INSERT TO t ALWAYS DO DELETE FROM t END": func(s *ast.Stmt) { s.Acts = append(s.Acts, s.Acts[0], s.Acts[0], s.Acts[0], s.Acts[0]) },
		"DROP TABLE w": func(s *ast.Stmt) { s.Name = "w-" },
		"DROP INDEX w": func(s *ast.Stmt) { s.Table = "t" },
		"DROP RULE w":  func(s *ast.Stmt) { s.Name = "abcdefghijklmnopq" },
	}
	for text, change := range wrong {
		s := read(text)
		change(&s)
		wantRefused(t, c, s, api.ErrArg)
	}
}
