package catalog_test

import (
	"math/rand/v2"
	"testing"

	"tripwire/api"
	"tripwire/ast"
	"tripwire/catalog"
	"tripwire/check"
)

// unsound tells what of P19.2 doesn't hold of a catalog; "", if all does.
func unsound(c catalog.Catalog) string {
	tables, indexes, rules := namesOf(c)
	for _, l := range [][]string{tables, indexes, rules} {
		there := map[string]int{}
		for _, name := range l {
			if there[name]++; there[name] > 1 {
				return "two of the name " + name
			}
		}
	}
	for _, x := range c.Indexes {
		if t, e := check.Find(c.Tables, x.Table); e != api.OK || len(among(t.Cols, x.Col)) != 1 {
			return "the index " + x.Name + " is of nothing"
		}
	}
	for _, r := range c.Rules {
		if _, e := catalog.When(c, r); e != api.OK {
			return "When of the rule " + r.Name + " has an error"
		}
		for _, act := range r.Acts {
			if _, e := catalog.Compile(c, act, r.Table); e != api.OK {
				return "an act of the rule " + r.Name + " has an error"
			}
		}
	}
	return ""
}

// dozen are statements, of which many hang on others.
func dozen() []ast.Stmt {
	var l []ast.Stmt
	for _, text := range []string{
		"CREATE TABLE t (a INT)",
		"CREATE TABLE t (a TEXT, b INT)",
		"CREATE TABLE u (a INT)",
		"CREATE INDEX i ON t (a)",
		"CREATE INDEX j ON u (a)",
		"CREATE RULE r PRIORITY 1 ON INSERT TO t WHEN INSERTED n WHERE n.a > 3 DO INSERT INTO u SELECT a FROM t END",
		"CREATE RULE q PRIORITY 2 ON DELETE TO u WHEN t WHERE a < 'x' DO ROLLBACK",
		"CREATE RULE p PRIORITY 2 ON DELETE TO u ALWAYS DO UPDATE t SET b = 1 WHERE b = 2; DELETE FROM u END",
		"DROP TABLE t",
		"DROP TABLE u",
		"DROP INDEX i",
		"DROP RULE r",
	} {
		l = append(l, read(text))
	}
	return l
}

// Every list of up to seven of a dozen statements, one behind the other from the zero catalog on.
func TestEveryShortOrder(t *testing.T) {
	count := map[api.Errno]int{}
	var each func(c catalog.Catalog, left int)
	each = func(c catalog.Catalog, left int) {
		for _, s := range dozen() {
			if d := differs(c, s, "t"); d != "" {
				t.Fatal(order(c), d)
			}
			d, e := catalog.Apply(c, s)
			if count[e]++; e != api.OK {
				continue
			}
			if x := unsound(d); x != "" {
				t.Fatal(order(c), ast.Show(s), x)
			}
			if left > 1 {
				each(d, left-1)
			}
		}
	}
	each(catalog.Catalog{}, 7)
	for _, e := range []api.Errno{api.OK, api.ErrName, api.ErrThere, api.ErrType} {
		if count[e] < 1000 {
			t.Error(count, "too few to tell anything")
		}
	}
}

// The dozen and more in orders by chance, so often that all has been there and gone.
func TestLongOrdersByChance(t *testing.T) {
	most, rules := 0, 0
	for seed := range uint64(400) {
		r := rand.New(rand.NewPCG(191, seed))
		l := append(dozen(), read("CREATE TABLE v (a INT, b BOOL)"), read("DROP RULE q"), read("DROP RULE p"), read("DROP INDEX j"),
			read("CREATE RULE v PRIORITY 2 ON UPDATE TO v WHEN OLD o, NEW n, t WHERE o.b AND n.a > o.a DO INSERT INTO v SELECT a, b FROM NEW END"), read("DROP TABLE v"), read("CREATE INDEX v ON v (b)"))
		var c catalog.Catalog
		for range 60 {
			s := pick(r, l...)
			if d := differs(c, s, pick(r, "", "t", "v")); d != "" {
				t.Fatal(order(c), d)
			}
			if d, e := catalog.Apply(c, s); e == api.OK {
				c = d
			}
			if x := unsound(c); x != "" {
				t.Fatal(tell(c), x)
			}
			most, rules = max(most, len(c.Tables)+len(c.Indexes)+len(c.Rules)), rules+len(c.Rules)
		}
	}
	if most < 6 || rules < 10000 {
		t.Error(most, rules, "too few to tell anything")
	}
}
