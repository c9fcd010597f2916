package catalog_test

import (
	"testing"

	"tripwire/api"
	"tripwire/catalog"
)

// ruleWith is a rule on u that does something with t, or not.
func ruleWith(text string) string { return "CREATE RULE r PRIORITY 1 ON UPDATE TO " + text }

// A table that a rule names isn't dropped, wherever it does; nor is the rule's own.
func TestTablesThatARuleNames(t *testing.T) {
	base := []string{"CREATE TABLE t (a INT)", "CREATE TABLE u (a INT)", "CREATE TABLE v (a INT)"}
	for text, named := range map[string]string{
		"t ALWAYS DO ROLLBACK":                                                                   "t",
		"t WHEN NEW DO ROLLBACK":                                                                 "t",
		"u WHEN t DO ROLLBACK":                                                                   "ut",
		"u WHEN t x DO ROLLBACK":                                                                 "ut",
		"u WHEN NEW, OLD o, t x WHERE x.a = 1 DO ROLLBACK":                                       "ut",
		"u WHEN NEW t, OLD v DO ROLLBACK":                                                        "u", // these are variables
		"u WHEN u x, t v DO ROLLBACK":                                                            "ut",
		"u WHEN u t WHERE t.a = 1 DO ROLLBACK":                                                   "u",
		"u ALWAYS DO DELETE FROM t END":                                                          "ut",
		"u ALWAYS DO UPDATE t SET a = 1 END":                                                     "ut",
		"u ALWAYS DO INSERT INTO t VALUES (1) END":                                               "ut",
		"u ALWAYS DO INSERT INTO t SELECT * FROM v END":                                          "utv",
		"u ALWAYS DO INSERT INTO u SELECT * FROM t END":                                          "ut",
		"u ALWAYS DO INSERT INTO v SELECT x.a FROM u, NEW, t x END":                              "uvt",
		"u ALWAYS DO INSERT INTO u SELECT * FROM NEW t END":                                      "u",
		"u ALWAYS DO INSERT INTO u SELECT v.a FROM u v, OLD t END":                               "u",
		"u ALWAYS DO DELETE FROM u; DELETE FROM u; INSERT INTO u VALUES (1); DELETE FROM t END":  "ut",
		"u ALWAYS DO DELETE FROM u; INSERT INTO u SELECT x.a FROM NEW x, t y; DELETE FROM u END": "ut",
		"u WHEN v DO INSERT INTO u SELECT * FROM t; DELETE FROM u END":                           "uvt",
		"u DEFERRED WHEN DELETED t, INSERTED v WHERE t.a = v.a DO UPDATE u SET a = 3 WHERE u.a = 4; DELETE FROM u END": "u",
	} {
		c := made(append(base, ruleWith(text))...)
		for _, x := range []string{"t", "u", "v"} {
			drop := read("DROP TABLE " + x)
			d, e := catalog.Apply(c, drop)
			is := false
			for _, n := range named {
				is = is || string(n) == x
			}
			switch {
			case is:
				wantRefused(t, c, drop, api.ErrThere)
			case e != api.OK || len(d.Tables) != 2 || len(d.Rules) != 1:
				t.Errorf("%s, DROP TABLE %s: %d, %s", text, x, e, order(d))
			}
			// without the rule nothing is in its way
			wantApplied(t, c, "DROP RULE r", "DROP TABLE "+x)
		}
	}
}

// The rule that names the table stands among others, at each place.
func TestOneOfManyRulesNamesATable(t *testing.T) {
	for priority := range 5 {
		c := made("CREATE TABLE t (a INT)", "CREATE TABLE u (a INT)",
			"CREATE RULE r1 PRIORITY 1 ON INSERT TO u ALWAYS DO ROLLBACK", "CREATE RULE r2 PRIORITY 2 ON INSERT TO u ALWAYS DO ROLLBACK", "CREATE RULE r3 PRIORITY 3 ON INSERT TO u ALWAYS DO ROLLBACK",
			"CREATE RULE r PRIORITY "+string(rune('0'+priority))+" ON INSERT TO u ALWAYS DO DELETE FROM t END")
		wantRefused(t, c, read("DROP TABLE t"), api.ErrThere)
		wantOrder(t, wantApplied(t, c, "DROP RULE r", "DROP TABLE t"), "u |  | r3 r2 r1")
	}
}

// With a table its indexes go; those of others stay, in their order.
func TestIndexesGoWithTheirTable(t *testing.T) {
	c := made("CREATE TABLE t (a INT, b INT)", "CREATE TABLE u (a INT)", "CREATE TABLE v (a INT)",
		"CREATE INDEX z ON t (a)", "CREATE INDEX y ON u (a)", "CREATE INDEX x ON t (b)", "CREATE INDEX t ON u (a)", "CREATE INDEX v ON t (a)", "CREATE INDEX a ON v (a)",
		"CREATE RULE r PRIORITY 1 ON INSERT TO v ALWAYS DO ROLLBACK")
	wantTold(t, wantApplied(t, c, "DROP TABLE t"), "CREATE TABLE u (a INT)", "CREATE TABLE v (a INT)",
		"CREATE INDEX y ON u (a)", "CREATE INDEX t ON u (a)", "CREATE INDEX a ON v (a)", "CREATE RULE r PRIORITY 1 ON INSERT TO v ALWAYS DO ROLLBACK")
	wantOrder(t, wantApplied(t, c, "DROP TABLE u"), "t v | z x v a | r")
	wantRefused(t, c, read("DROP TABLE v"), api.ErrThere)
	wantOrder(t, wantApplied(t, c, "DROP TABLE u", "DROP TABLE t", "DROP RULE r", "DROP TABLE v"), " |  | ")
	again := wantApplied(t, c, "DROP TABLE t", "CREATE TABLE t (b INT)", "CREATE INDEX z ON t (b)")
	wantOrder(t, again, "u v t | y t a z | r")
	wantRefused(t, again, read("CREATE INDEX x ON t (a)"), api.ErrName)
}

func TestDropIndex(t *testing.T) {
	c := made("CREATE TABLE t (a INT)", "CREATE TABLE i (a INT)", "CREATE INDEX i ON t (a)", "CREATE INDEX j ON i (a)", "CREATE INDEX k ON t (a)", "CREATE INDEX t ON t (a)")
	wantOrder(t, wantApplied(t, c, "DROP INDEX i"), "t i | j k t | ")
	wantOrder(t, wantApplied(t, c, "DROP INDEX j"), "t i | i k t | ")
	wantOrder(t, wantApplied(t, c, "DROP INDEX t"), "t i | i j k | ")
	d := wantApplied(t, c, "DROP INDEX k")
	wantOrder(t, d, "t i | i j t | ")
	wantErrors(t, d, `
		2 DROP INDEX k
		2 DROP INDEX a
		2 DROP INDEX ii`)
	wantOrder(t, wantApplied(t, d, "CREATE INDEX k ON i (a)"), "t i | i j t k | ")
}

func TestDropRule(t *testing.T) {
	c := made("CREATE TABLE t (a INT)", "CREATE RULE r PRIORITY 1 ON INSERT TO t ALWAYS DO ROLLBACK", "CREATE RULE t PRIORITY 1 ON DELETE TO t ALWAYS DO DELETE FROM t END", "CREATE INDEX r ON t (a)")
	wantOrder(t, wantApplied(t, c, "DROP RULE t"), "t | r | r")
	d := wantApplied(t, c, "DROP RULE r")
	wantOrder(t, d, "t | r | t")
	wantErrors(t, d, `
		2 DROP RULE r
		2 DROP RULE a
		3 DROP TABLE t`)
	wantOrder(t, wantApplied(t, d, "DROP RULE t", "DROP TABLE t"), " |  | ")
}
