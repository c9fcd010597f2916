package catalog_test

import (
	"math"
	"math/rand/v2"
	"reflect"
	"strings"
	"testing"

	"tripwire/api"
	"tripwire/ast"
	"tripwire/catalog"
	"tripwire/check"
)

// leaves are all fields and lists that are anywhere within v.
func leaves(v reflect.Value, to []reflect.Value) []reflect.Value {
	switch v.Kind() {
	case reflect.Struct:
		for i := range v.NumField() {
			to = leaves(v.Field(i), to)
		}
		return to
	case reflect.Slice:
		for i := range v.Len() {
			to = leaves(v.Index(i), to)
		}
	}
	return append(to, v)
}

func anyText(r *rand.Rand) string {
	return pick(r, "", "a", "A", "t0", "t1", "t2", "i1", "r1", "c0", "c3", "c6", "x", "y", "z", "new", "value", "column", "neg", "and", "+", "=", "\xff\x00", strings.Repeat("t", 17))
}

// alter makes one leaf another one.
func alter(r *rand.Rand, v reflect.Value) {
	switch v.Kind() {
	case reflect.Bool:
		v.SetBool(!v.Bool())
	case reflect.Int:
		v.SetInt(pick(r, v.Int()+1, v.Int()-1, -v.Int(), 0, 1, 2, 3, int64(r.IntN(18)), 1000, math.MaxInt, math.MinInt))
	case reflect.String:
		v.SetString(anyText(r))
	case reflect.Slice:
		alterList(r, v)
	}
}

// alterList takes an element out, or puts one in that is there already, or an empty one.
func alterList(r *rand.Rand, v reflect.Value) {
	n := v.Len()
	switch {
	case n == 0 || r.IntN(8) == 0:
		v.Set(reflect.Append(v.Slice3(0, n, n), reflect.Zero(v.Type().Elem())))
	case r.IntN(2) == 0:
		v.Set(reflect.Append(v.Slice3(0, n, n), v.Index(r.IntN(n))))
	default:
		at := r.IntN(n)
		v.Set(reflect.AppendSlice(v.Slice3(0, at, at), v.Slice(at+1, n)))
	}
}

func alterSome(r *rand.Rand, x any) {
	for range r.IntN(4) {
		if l := leaves(reflect.ValueOf(x).Elem(), nil); len(l) > 0 {
			alter(r, pick(r, l...))
		}
	}
}

// fill puts anything into all that v has; its lists are the shorter the deeper they stand.
func fill(r *rand.Rand, v reflect.Value, most int) {
	switch v.Kind() {
	case reflect.Struct:
		for i := range v.NumField() {
			fill(r, v.Field(i), most)
		}
	case reflect.Slice:
		n := r.IntN(max(1, most))
		v.Set(reflect.MakeSlice(v.Type(), n, n))
		for i := range n {
			fill(r, v.Index(i), most-1)
		}
	case reflect.Bool:
		v.SetBool(r.IntN(2) == 0)
	case reflect.Int:
		v.SetInt(pick(r, 0, 1, 2, 3, 4, int64(r.IntN(18)), -1, 1000, math.MaxInt, math.MinInt))
	case reflect.String:
		v.SetString(anyText(r))
	}
}

// Catalogs that statements made, and statements, a few parts of which are others: nothing panics, and all is as the chapter says.
func TestAlteredCatalogsAndStatements(t *testing.T) {
	count := map[api.Errno]int{}
	for seed := range uint64(5000) {
		r := rand.New(rand.NewPCG(195, seed))
		m := maker{Rand: r, c: catalogByChance(r, r.IntN(25)), wrong: 60}
		alterSome(r, &m.c)
		for range 4 {
			s := m.stmt()
			if r.IntN(3) == 0 {
				s = pick(r, m.act("t1"), m.selection("t1"))
			}
			if alterSome(r, &s); !ast.Right(s) && r.IntN(10) > 0 {
				continue // most of them are alike
			}
			if d := differs(m.c, s, anyText(r)); d != "" {
				t.Fatalf("seed %d: %s\n%s", seed, d, short(m.c))
			}
			_, e := catalog.Apply(m.c, s)
			if s.Kind > ast.DropRule {
				_, e = catalog.Compile(m.c, s, "t1")
			}
			count[e]++
		}
	}
	for _, e := range []api.Errno{api.OK, api.ErrName, api.ErrThere, api.ErrType, api.ErrLong, api.ErrArg} {
		if count[e] < 100 {
			t.Errorf("%v: too few of %d to tell anything", count, e)
		}
	}
}

// Catalogs and statements of any form.
func TestWhateverIsGiven(t *testing.T) {
	count := map[api.Errno]int{}
	for seed := range uint64(4000) {
		r := rand.New(rand.NewPCG(196, seed))
		var c catalog.Catalog
		fill(r, reflect.ValueOf(&c).Elem(), 5)
		var wild ast.Stmt
		fill(r, reflect.ValueOf(&wild).Elem(), 4)
		m := maker{Rand: r, c: c, wrong: 60}
		l := []ast.Stmt{wild, {Kind: 9 + r.IntN(3), Name: pick(r, "a", "t0", "t1", "i1", "r1", "c0")}, {Kind: ast.Delete, Table: pick(r, "a", "t0", "t1", "i1")},
			{Kind: ast.Table, Name: pick(r, "a", "t0", "v"), Cols: []api.Column{{Name: "c0", Type: 2}}}, m.act("t1"), m.selection("t2")}
		for _, s := range append(l, c.Rules...) {
			if d := differs(c, s, anyText(r)); d != "" {
				t.Fatalf("seed %d: %s\n%s", seed, d, short(c))
			}
			_, e := catalog.Apply(c, s)
			_, f := catalog.Compile(c, s, "t1")
			count[min(e, f)]++
		}
	}
	for _, e := range []api.Errno{api.OK, api.ErrName, api.ErrThere, api.ErrArg} {
		if count[e] < 100 {
			t.Errorf("%v: too few of %d to tell anything", count, e)
		}
	}
}

// Of two tables of one name, or two columns, the first one counts.
func TestTwoOfOneName(t *testing.T) {
	c := catalog.Catalog{Tables: []check.Table{
		{Name: "t", Cols: []api.Column{{Name: "a", Type: 2}, {Name: "b", Type: 3}, {Name: "a", Type: 3}}},
		{Name: "t", Cols: []api.Column{{Name: "c", Type: 1}}},
	}}
	wantPlan(t, c, "", "UPDATE t SET b = 'x', a = 1 WHERE a = 2", "13 t | t of 0t (a, b, a) | 'x', 1 | 1, 0 | (0.0 = 2)")
	wantPlan(t, c, "", "SELECT * FROM t", "15  | t of 0t (a, b, a) | 0.0, 0.1, 0.2 |  | ")
	wantCompileErrors(t, c, "", `
		2 DELETE FROM t WHERE c
		4 UPDATE t SET a = 'x'
		15 INSERT INTO t VALUES (TRUE)`)
	wantErrors(t, c, `
		3 CREATE TABLE t (a INT)
		2 CREATE INDEX i ON t (c)`)
	wantOrder(t, wantApplied(t, c, "CREATE INDEX i ON t (a)"), "t t | i | ")
}

// What stands within itself is deeper than what the document speaks of: the calls end all the same.
func TestWithinItself(t *testing.T) {
	base := someTables()
	deep := func() ast.Expr {
		kids := make([]ast.Expr, 2)
		for i := range kids {
			kids[i] = ast.Expr{Op: "and", Kids: kids}
		}
		return kids[0]
	}
	expr := read("CREATE RULE r PRIORITY 1 ON INSERT TO t WHEN NEW WHERE new.a = 1 DO ROLLBACK")
	expr.Where[0] = deep()
	acts := read("CREATE RULE r PRIORITY 1 ON INSERT TO t ALWAYS DO DELETE FROM t; DELETE FROM t END")
	acts.Acts[0], acts.Acts[1] = acts, acts
	set := read("CREATE RULE r PRIORITY 1 ON INSERT TO t ALWAYS DO UPDATE t SET a = 1 END")
	set.Acts[0].Sets[0].E = deep()
	for _, s := range []ast.Stmt{expr, acts, set} {
		if _, e := catalog.Apply(base, s); e != api.ErrArg {
			t.Error(e)
		}
		if _, e := catalog.When(base, s); e != api.ErrArg {
			t.Error(e)
		}
		if _, e := catalog.Compile(base, s, "t"); e != api.ErrArg {
			t.Error(e)
		}
		c := base
		c.Rules = []ast.Stmt{s}
		for _, text := range []string{"CREATE TABLE x (a INT)", "DROP TABLE w", "DROP TABLE t"} {
			if d, e := catalog.Apply(c, read(text)); e == api.OK || !reflect.DeepEqual(d, catalog.Catalog{}) {
				t.Error(text, e)
			}
		}
		if d, e := catalog.Apply(c, read("DROP RULE r")); e != api.OK || all(d) != all(base) {
			t.Error(e, short(d))
		}
		if p, e := catalog.Compile(c, read("DELETE FROM t"), ""); e != api.OK || plan(p) != "14 t | t of 0t (a, b) |  |  | " {
			t.Error(e, short(p))
		}
	}
	for _, op := range []string{"neg", "not", "null"} {
		kids := make([]ast.Expr, 1)
		kids[0] = ast.Expr{Op: op, Kids: kids}
		s := read("DELETE FROM t WHERE b = 'x'")
		s.Where = kids
		wantCode(t, base, s, api.ErrArg)
	}
	s := read("SELECT * FROM t")
	s.Items = []ast.Expr{deep()}
	wantCode(t, base, s, api.ErrArg)
}

// wantCode asks for an error of a statement that can't be told.
func wantCode(t *testing.T, c catalog.Catalog, s ast.Stmt, want api.Errno) {
	t.Helper()
	if p, e := catalog.Compile(c, s, ""); e != want || !reflect.DeepEqual(p, catalog.Plan{}) {
		t.Error(e, "not", want)
	}
}

// Within the document's bound a rule that isn't right is kept as it is, however deep it stands.
func TestDeepRulesAreKept(t *testing.T) {
	e := ast.Expr{Op: "column", Col: "a"}
	for range 5000 {
		e = ast.Expr{Op: "neg", Kids: []ast.Expr{e}}
	}
	c := someTables()
	c.Rules = []ast.Stmt{{Kind: ast.Rule, Name: "r", Where: []ast.Expr{e}, Acts: []ast.Stmt{{Kind: 99, Acts: []ast.Stmt{{Name: "deep"}}}}}}
	d, x := catalog.Apply(c, read("CREATE TABLE x (a INT)"))
	if x != api.OK || !reflect.DeepEqual(d.Rules, c.Rules) || len(d.Tables) != 4 {
		t.Error(x, len(d.Rules), order(d))
	}
}
