package catalog_test

import (
	"reflect"
	"testing"

	"tripwire/api"
	"tripwire/ast"
	"tripwire/catalog"
)

// rule is the text of a rule on t that asks so.
func rule(asks string) string {
	return "CREATE RULE r PRIORITY 1 ON UPDATE TO t " + asks + " DO ROLLBACK"
}

func wantWhen(t *testing.T, c catalog.Catalog, text, want string) {
	t.Helper()
	was := whole(c)
	p, e := catalog.When(c, read(text))
	if e != api.OK || plan(p) != want {
		t.Errorf("%s: %d\n%s\nnot\n%s", text, e, plan(p), want)
	}
	if whole(c) != was {
		t.Errorf("%s: the catalog that was handed in has become another", text)
	}
}

// wantNoWhen asks for the zero plan beside the error, too.
func wantNoWhen(t *testing.T, c catalog.Catalog, s ast.Stmt, want api.Errno) {
	t.Helper()
	p, e := catalog.When(c, s)
	if e != want || !reflect.DeepEqual(p, catalog.Plan{}) {
		t.Errorf("%s: %d beside %s, not %d", short(s), e, short(p), want)
	}
}

func TestPlansOfRules(t *testing.T) {
	c := someTables()
	wantWhen(t, c, rule("ALWAYS"), "8 t |  |  |  | ")
	wantWhen(t, c, rule("WHEN NEW"), "8 t | new of 4 (a, b) |  |  | ")
	wantWhen(t, c, rule("WHEN INSERTED n WHERE n.a > 3 AND (b = 'x' OR n.a < 9) AND NOT b IS NULL"), "8 t | n of 1.n (a, b) |  |  | (0.0 > 3), ((0.1 = 'x') or (0.0 < 9)), (not (null 0.1))")
	wantWhen(t, c, rule("WHEN OLD, NEW n, w WHERE old.a = n.a AND d"), "8 t | old of 3 (a, b), n of 4.n (a, b), w of 0w (d, e, f) |  |  | (0.0 = 1.0), 2.0")
	wantWhen(t, c, rule("WHEN t, DELETED x, u WHERE x.b = t.b"), "8 t | t of 0t (a, b), x of 2.x (a, b), u of 0u (a) |  |  | (1.1 = 0.1)")
	wantWhen(t, c, "CREATE RULE r PRIORITY 999 ON DELETE TO w DEFERRED WHEN DELETED WHERE f = 1 AND NULL DO DELETE FROM t END", "8 w | deleted of 2 (d, e, f) |  |  | (0.2 = 1), NULL")
}

// When asks neither for the rule's name, nor for what it does; nor for its table, where nothing of it is asked.
func TestWhatWhenDoesNotAsk(t *testing.T) {
	c := wantApplied(t, someTables(), rule("ALWAYS"))
	wantWhen(t, c, rule("WHEN NEW WHERE a = 1"), "8 t | new of 4 (a, b) |  |  | (0.0 = 1)")
	wantWhen(t, c, "CREATE RULE r PRIORITY 1 ON INSERT TO t ALWAYS DO DELETE FROM no END", "8 t |  |  |  | ")
	wantWhen(t, c, "CREATE RULE r PRIORITY 1 ON INSERT TO t WHEN u DO INSERT INTO t VALUES (no, 1) END", "8 t | u of 0u (a) |  |  | ")
	wantWhen(t, c, "CREATE RULE r PRIORITY 1 ON INSERT TO no ALWAYS DO ROLLBACK", "8 no |  |  |  | ")
	wantWhen(t, c, "CREATE RULE r PRIORITY 1 ON INSERT TO no WHEN u WHERE a = 1 DO ROLLBACK", "8 no | u of 0u (a) |  |  | (0.0 = 1)")
	wantWhen(t, catalog.Catalog{}, rule("ALWAYS"), "8 t |  |  |  | ")
	wantNoWhen(t, c, read("CREATE RULE r PRIORITY 1 ON INSERT TO no WHEN NEW DO ROLLBACK"), api.ErrName)
	wantNoWhen(t, catalog.Catalog{}, read(rule("WHEN t")), api.ErrName)
}

func TestErrorsOfWhen(t *testing.T) {
	c := someTables()
	for asks, want := range map[string]api.Errno{
		"WHEN x":                                 api.ErrName,
		"WHEN NEW, x":                            api.ErrName,
		"WHEN NEW, NEW":                          api.ErrThere,
		"WHEN NEW t, t":                          api.ErrThere,
		"WHEN NEW WHERE z = 1":                   api.ErrName,
		"WHEN NEW, OLD WHERE a = 1":              api.ErrName,
		"WHEN NEW n WHERE new.a = 1":             api.ErrName,
		"WHEN NEW WHERE a":                       api.ErrType,
		"WHEN NEW WHERE a = b":                   api.ErrType,
		"WHEN NEW WHERE 'x'":                     api.ErrType,
		"WHEN x, t, t WHERE a = b":               api.ErrName,
		"WHEN t, t, x WHERE z":                   api.ErrThere, // Vars' error is ahead of Cond's
		"WHEN t, t WHERE z = 1":                  api.ErrThere,
		"WHEN u, x WHERE 1":                      api.ErrName,
		"WHEN t, u WHERE t.a = t.b AND z = 1":    api.ErrType,
		"WHEN t, u WHERE z = 1 AND t.a = t.b":    api.ErrName,
		"WHEN t, u WHERE u.a = 1 AND t.a + u.a":  api.ErrType,
		"WHEN t, INSERTED u, DELETED u WHERE 1":  api.ErrThere,
		"WHEN t WHERE inserted.a = 1":            api.ErrName,
		"WHEN t WHERE t.a = 1 AND NOT t.b = t.c": api.ErrName,
	} {
		wantNoWhen(t, c, read(rule(asks)), want)
	}
}

func TestWhenOfOtherStatements(t *testing.T) {
	c := someTables()
	for _, text := range []string{"BEGIN", "COMMIT", "ABORT", "SAVEPOINT t", "ROLLBACK TO t", "CREATE TABLE x (a INT)", "CREATE INDEX i ON t (a)", "DROP TABLE t", "DROP INDEX i", "DROP RULE r", "INSERT INTO t VALUES (1, 'x')", "INSERT INTO t SELECT * FROM t", "UPDATE t SET a = 1", "DELETE FROM t", "SELECT * FROM t", "SELECT * FROM x"} {
		wantNoWhen(t, c, read(text), api.ErrArg)
	}
	for name, change := range map[string]func(s *ast.Stmt){
		"a wrong name":       func(s *ast.Stmt) { s.Name = "R" },
		"no name":            func(s *ast.Stmt) { s.Name = "" },
		"a priority":         func(s *ast.Stmt) { s.Priority = 1000 },
		"no table":           func(s *ast.Stmt) { s.Table = "" },
		"an event":           func(s *ast.Stmt) { s.Event = 0 },
		"four sources":       func(s *ast.Stmt) { s.From = append(s.From, s.From[0], s.From[0], s.From[0]) },
		"two conditions":     func(s *ast.Stmt) { s.Where = append(s.Where, s.Where...) },
		"a condition only":   func(s *ast.Stmt) { s.From = nil },
		"nothing to do":      func(s *ast.Stmt) { s.Rolls = false },
		"both to do":         func(s *ast.Stmt) { s.Acts = []ast.Stmt{read("DELETE FROM t")} },
		"a wrong act":        func(s *ast.Stmt) { s.Rolls, s.Acts = false, []ast.Stmt{read("SELECT * FROM t")} },
		"itself as its act":  func(s *ast.Stmt) { s.Rolls, s.Acts = false, []ast.Stmt{*s} },
		"a wrong expression": func(s *ast.Stmt) { s.Where[0].Kids = nil },
		"another Kind":       func(s *ast.Stmt) { s.Kind = 16 },
	} {
		s := read(rule("WHEN NEW, x WHERE new.a = 1"))
		wantNoWhen(t, c, s, api.ErrName)
		if change(&s); ast.Right(s) {
			t.Error(name, "is right")
		}
		wantNoWhen(t, c, s, api.ErrArg)
	}
	wantNoWhen(t, c, ast.Stmt{}, api.ErrArg)
	wantNoWhen(t, catalog.Catalog{}, ast.Stmt{Kind: ast.Rule}, api.ErrArg)
}
