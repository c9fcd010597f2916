package catalog_test

import (
	"fmt"
	"slices"
	"strings"
	"testing"

	"tripwire/api"
	"tripwire/ast"
	"tripwire/catalog"
	"tripwire/check"
)

// eight is a text eight times, with a, b and so on for each #.
func eight(text string) []string {
	var l []string
	for _, name := range strings.Split("abcdefgh", "") {
		l = append(l, strings.ReplaceAll(text, "#", name))
	}
	return l
}

const names8 = "a b c d e f g h"

func TestEightTables(t *testing.T) {
	c := made(eight("CREATE TABLE # (x INT)")...)
	wantOrder(t, c, names8+" |  | ")
	wantErrors(t, c, `
		8 CREATE TABLE i (x INT)
		3 CREATE TABLE a (x INT)
		3 CREATE TABLE h (x INT)`)
	wantOrder(t, wantApplied(t, c, "DROP TABLE c", "CREATE TABLE i (x INT)"), "a b d e f g h i |  | ")
	full := wantApplied(t, c, append(eight("CREATE INDEX # ON # (x)"), eight("CREATE RULE # PRIORITY 1 ON INSERT TO # ALWAYS DO DELETE FROM # END")...)...)
	wantOrder(t, full, names8+" | "+names8+" | "+names8)
	wantErrors(t, full, `
		8 CREATE TABLE i (x INT)
		8 CREATE INDEX i ON a (x)
		8 CREATE RULE i PRIORITY 1 ON INSERT TO a ALWAYS DO ROLLBACK`)
}

func TestEightIndexes(t *testing.T) {
	c := made(append([]string{"CREATE TABLE t (x INT, y TEXT)"}, eight("CREATE INDEX # ON t (x)")...)...)
	wantOrder(t, c, "t | "+names8+" | ")
	wantErrors(t, c, `
		8 CREATE INDEX i ON t (y)
		3 CREATE INDEX h ON t (y)
		3 CREATE INDEX a ON w (y)
		2 CREATE INDEX i ON w (x)
		2 CREATE INDEX i ON t (z)`)
	wantOrder(t, wantApplied(t, c, "DROP INDEX h", "DROP INDEX a", "CREATE INDEX i ON t (y)", "CREATE INDEX a ON t (y)"), "t | b c d e f g i a | ")
}

func TestEightRules(t *testing.T) {
	c := made(append([]string{"CREATE TABLE t (x INT)"}, eight("CREATE RULE # PRIORITY 1 ON INSERT TO t ALWAYS DO ROLLBACK")...)...)
	wantOrder(t, c, "t |  | "+names8)
	wantErrors(t, c, `
		8 CREATE RULE i PRIORITY 1 ON INSERT TO t ALWAYS DO ROLLBACK
		8 CREATE RULE i PRIORITY 1 ON INSERT TO t WHEN w DO ROLLBACK
		8 CREATE RULE i PRIORITY 1 ON INSERT TO t ALWAYS DO DELETE FROM w END
		3 CREATE RULE h PRIORITY 1 ON INSERT TO w ALWAYS DO ROLLBACK
		2 CREATE RULE i PRIORITY 1 ON INSERT TO w ALWAYS DO ROLLBACK`)
	wantOrder(t, wantApplied(t, c, "DROP RULE c", "CREATE RULE c PRIORITY 2 ON INSERT TO t ALWAYS DO ROLLBACK"), "t |  | c a b d e f g h")
}

// A catalog that Apply didn't make may have more than may be: it is full all the same.
func TestMoreThanMayBe(t *testing.T) {
	c := made("CREATE TABLE t (x INT)")
	rule := read("CREATE RULE r PRIORITY 1 ON INSERT TO t ALWAYS DO ROLLBACK")
	for i := range 20 {
		rule.Name = fmt.Sprintf("n%02d", i)
		c.Tables = append(c.Tables, check.Table{Name: rule.Name, Cols: c.Tables[0].Cols})
		c.Indexes = append(c.Indexes, catalog.Index{Name: rule.Name, Table: "t", Col: "x"})
		c.Rules = append(c.Rules, rule)
	}
	wantErrors(t, c, `
		8 CREATE TABLE i (x INT)
		8 CREATE INDEX i ON t (x)
		8 CREATE RULE i PRIORITY 1 ON INSERT TO t ALWAYS DO ROLLBACK
		3 CREATE TABLE n19 (x INT)
		3 CREATE INDEX n19 ON t (x)
		3 CREATE RULE n19 PRIORITY 1 ON INSERT TO t ALWAYS DO ROLLBACK`)
	d := wantApplied(t, c, "DROP RULE n03", "DROP INDEX n03", "DROP TABLE n03")
	if len(d.Tables) != 20 || len(d.Indexes) != 19 || len(d.Rules) != 19 {
		t.Error(order(d))
	}
}

// Tables and indexes stand in the order in which they were made, whatever their names are.
func TestOrderOfTablesAndIndexes(t *testing.T) {
	c := made("CREATE TABLE m (x INT)", "CREATE TABLE z (x INT)", "CREATE TABLE a (x INT)", "CREATE INDEX q ON a (x)", "CREATE INDEX z ON m (x)", "CREATE INDEX b ON z (x)", "CREATE INDEX n ON m (x)")
	wantOrder(t, c, "m z a | q z b n | ")
	c = wantApplied(t, c, "DROP TABLE z", "CREATE TABLE b (x INT)", "CREATE TABLE z (x INT)", "CREATE INDEX a ON z (x)", "CREATE INDEX b ON b (x)")
	wantOrder(t, c, "m a b z | q z n a b | ")
	wantOrder(t, wantApplied(t, c, "DROP INDEX z", "CREATE INDEX z ON b (x)"), "m a b z | q n a b z | ")
}

// In whichever order rules are made: they stand by falling priority, then by name.
func TestOrderOfRules(t *testing.T) {
	ranked := []string{"b 999", "z 10", "a 9", "ab 9", "b_ 9", "c 2", "aa 0"} // a name is ahead of the longer ones that begin with it
	want := "t |  | b z a ab b_ c aa"
	t1 := made("CREATE TABLE t (x INT)")
	var each func(c catalog.Catalog, left []string)
	done := 0
	each = func(c catalog.Catalog, left []string) {
		if len(left) == 0 {
			done++
			wantOrderQuietly(t, c, strings.ReplaceAll(want, "b_", "bb"))
			return
		}
		for i, x := range left {
			name, priority, _ := strings.Cut(strings.ReplaceAll(x, "_", "b"), " ")
			d, e := catalog.Apply(c, read("CREATE RULE "+name+" PRIORITY "+priority+" ON INSERT TO t ALWAYS DO ROLLBACK"))
			if e != api.OK {
				t.Fatal(x, e)
			}
			each(d, slices.Delete(slices.Clone(left), i, i+1))
		}
	}
	each(t1, ranked)
	if done != 5040 {
		t.Error(done)
	}
}

func wantOrderQuietly(t *testing.T, c catalog.Catalog, want string) {
	t.Helper()
	if order(c) != want {
		t.Fatalf("%q, not %q", order(c), want)
	}
}

// Behind a DropRule the others stay in their order, and the next one comes to its place among them.
func TestOrderBehindADropRule(t *testing.T) {
	c := made("CREATE TABLE t (x INT)")
	for _, x := range []string{"e 1", "d 2", "c 2", "b 3", "a 0"} {
		name, priority, _ := strings.Cut(x, " ")
		c = wantApplied(t, c, "CREATE RULE "+name+" PRIORITY "+priority+" ON INSERT TO t ALWAYS DO ROLLBACK")
	}
	wantOrder(t, c, "t |  | b c d e a")
	for _, x := range []string{"a b c d e", "b c d e a", "c b d e a", "d b c e a", "e b c d a"} {
		gone, rest, _ := strings.Cut(x, " ")
		if gone == "a" {
			rest = "b c d e"
		}
		d := wantApplied(t, c, "DROP RULE "+gone)
		wantOrder(t, d, "t |  | "+rest)
		wantOrder(t, wantApplied(t, d, "CREATE RULE z PRIORITY 0 ON INSERT TO t ALWAYS DO ROLLBACK"), "t |  | "+rest+" z")
		wantOrder(t, wantApplied(t, d, "CREATE RULE "+gone+" PRIORITY 999 ON INSERT TO t ALWAYS DO ROLLBACK"), "t |  | "+gone+" "+rest)
	}
	wantOrder(t, wantApplied(t, c, "DROP RULE d", "DROP RULE b", "CREATE RULE b PRIORITY 2 ON DELETE TO t ALWAYS DO ROLLBACK"), "t |  | b c e a")
}

// No statement has a priority below 0, but a rule of a catalog that Apply didn't make may: it stands behind all others.
func TestPrioritiesBelowZero(t *testing.T) {
	for _, p := range []int{-1, -999, -1 << 63} {
		rule := read("CREATE RULE a PRIORITY 1 ON INSERT TO t ALWAYS DO ROLLBACK")
		rule.Priority = p
		wantRefused(t, made("CREATE TABLE t (x INT)"), rule, api.ErrArg)
		c := made("CREATE TABLE t (x INT)")
		low := rule
		low.Name, low.Priority = "b", -1<<63
		c.Rules = []ast.Stmt{rule, low}
		wantOrder(t, wantApplied(t, c, "CREATE RULE z PRIORITY 0 ON INSERT TO t ALWAYS DO ROLLBACK"), "t |  | z a b")
	}
	rule := read("CREATE RULE a PRIORITY 1 ON INSERT TO t ALWAYS DO ROLLBACK")
	rule.Priority = 1<<63 - 1
	c := made("CREATE TABLE t (x INT)")
	c.Rules = []ast.Stmt{rule}
	wantOrder(t, wantApplied(t, c, "CREATE RULE b PRIORITY 999 ON INSERT TO t ALWAYS DO ROLLBACK"), "t |  | a b")
}
