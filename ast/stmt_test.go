package ast_test

import (
	"math"
	"reflect"
	"slices"
	"strings"
	"testing"

	"tripwire/api"
	"tripwire/ast"
)

// sample is a right statement with all its fields: those that may not be missing, and those that may.
type sample struct {
	text       string
	s          ast.Stmt
	must, free string
}

func samples() []sample {
	cols := []api.Column{{Name: "a", Type: 2, NotNull: true, Unique: true}, {Name: "b", Type: 3}}
	both := from(ast.Source{Table: "t", Var: "x"}, ast.Source{Kind: 2})
	old := from(ast.Source{Kind: 3, Var: "o"}, ast.Source{Kind: 4, Var: "n"})
	where, items := exprs(op("=", dot("x", "a"), num(1))), exprs(col("a"), str("s"))
	del, put := ast.Stmt{Kind: 14, Table: "u"}, ast.Stmt{Kind: 12, Table: "u", Values: exprs(num(1))}
	change := sets(ast.Set{Col: "a", E: num(1)}, ast.Set{Col: "b", E: col("b")})
	return []sample{
		{"BEGIN", ast.Stmt{Kind: 1}, "", ""},
		{"COMMIT", ast.Stmt{Kind: 2}, "", ""},
		{"ABORT", ast.Stmt{Kind: 3}, "", ""},
		{"SAVEPOINT n", ast.Stmt{Kind: 4, Name: "n"}, "Name", ""},
		{"ROLLBACK TO n", ast.Stmt{Kind: 5, Name: "n"}, "Name", ""},
		{"CREATE TABLE n (a INT NOT NULL UNIQUE, b TEXT)", ast.Stmt{Kind: 6, Name: "n", Cols: cols}, "Name Cols", ""},
		{"CREATE INDEX n ON t (c)", ast.Stmt{Kind: 7, Name: "n", Table: "t", Col: "c"}, "Name Table Col", ""},
		{"CREATE RULE n PRIORITY 7 ON UPDATE TO t DEFERRED WHEN OLD o, NEW n WHERE (x.a = 1) DO ROLLBACK",
			ast.Stmt{Kind: 8, Name: "n", Priority: 7, Event: 3, Table: "t", Deferred: true, From: old, Where: where, Rolls: true},
			"Name Event Table From Rolls", "Priority Deferred Where"},
		{"CREATE RULE n PRIORITY 999 ON INSERT TO t DEFERRED WHEN OLD o, NEW n WHERE (x.a = 1) DO DELETE FROM u; INSERT INTO u VALUES (1) END",
			ast.Stmt{Kind: 8, Name: "n", Priority: 999, Event: 1, Table: "t", Deferred: true, From: old, Where: where, Acts: acts(del, put)},
			"Name Event Table From Acts", "Priority Deferred Where"},
		{"CREATE RULE n PRIORITY 1 ON DELETE TO t DEFERRED WHEN t x, DELETED DO INSERT INTO u VALUES (1) END",
			ast.Stmt{Kind: 8, Name: "n", Priority: 1, Event: 2, Table: "t", Deferred: true, From: both, Acts: acts(put)},
			"Name Event Table Acts", "Priority Deferred From Where"},
		{"CREATE RULE n PRIORITY 10 ON DELETE TO t DEFERRED ALWAYS DO DELETE FROM u END",
			ast.Stmt{Kind: 8, Name: "n", Priority: 10, Event: 2, Table: "t", Deferred: true, Acts: acts(del)},
			"Name Event Table Acts", "Priority Deferred From"},
		{"CREATE RULE n PRIORITY 100 ON UPDATE TO t DEFERRED ALWAYS DO ROLLBACK",
			ast.Stmt{Kind: 8, Name: "n", Priority: 100, Event: 3, Table: "t", Deferred: true, Rolls: true},
			"Name Event Table Rolls", "Priority Deferred From"},
		{"DROP TABLE n", ast.Stmt{Kind: 9, Name: "n"}, "Name", ""},
		{"DROP INDEX n", ast.Stmt{Kind: 10, Name: "n"}, "Name", ""},
		{"DROP RULE n", ast.Stmt{Kind: 11, Name: "n"}, "Name", ""},
		{"INSERT INTO t VALUES (a, 's')", ast.Stmt{Kind: 12, Table: "t", Values: items}, "Table Values", ""},
		{"INSERT INTO t SELECT a, 's' FROM t x, DELETED WHERE (x.a = 1)",
			ast.Stmt{Kind: 12, Table: "t", Items: items, From: both, Where: where}, "Table From", "Items Where"},
		{"UPDATE t SET a = 1, b = b WHERE (x.a = 1)", ast.Stmt{Kind: 13, Table: "t", Sets: change, Where: where}, "Table Sets", "Where"},
		{"DELETE FROM t WHERE (x.a = 1)", ast.Stmt{Kind: 14, Table: "t", Where: where}, "Table", "Where"},
		{"SELECT a, 's' FROM t x, DELETED WHERE (x.a = 1)", ast.Stmt{Kind: 15, Items: items, From: both, Where: where}, "From", "Items Where"},
	}
}

// field is what may stand in a field of a statement, for it not to be zero: each would be right in a statement that has it.
type field struct {
	name string
	some []any
}

func fields() []field {
	return []field{
		{"Name", []any{"n", "t"}}, {"Table", []any{"t", "n"}}, {"Col", []any{"c", "t"}},
		{"Cols", []any{[]api.Column{{Name: "a", Type: 1}}, []api.Column{{Name: "a", Type: 2}, {Name: "b", Type: 3}}}},
		{"Values", []any{exprs(num(1)), exprs(col("a"), num(2))}},
		{"Items", []any{exprs(num(1)), exprs(col("a"), num(2))}},
		{"Where", []any{exprs(num(1)), exprs(op("=", col("a"), num(2)))}},
		{"Sets", []any{sets(ast.Set{Col: "a", E: num(1)})}},
		{"From", []any{from(ast.Source{Table: "t"}), from(ast.Source{Kind: 1}, ast.Source{Kind: 2})}},
		{"Priority", []any{1, 999}}, {"Event", []any{1, 2, 3}},
		{"Deferred", []any{true}}, {"Rolls", []any{true}},
		{"Acts", []any{acts(ast.Stmt{Kind: 14, Table: "t"}), acts(ast.Stmt{Kind: 14, Table: "t"}, ast.Stmt{Kind: 14, Table: "t"})}},
	}
}

// with is s with another value in one field; nil is the zero value.
func with(s ast.Stmt, name string, x any) ast.Stmt {
	f := reflect.ValueOf(&s).Elem().FieldByName(name)
	if x == nil {
		f.SetZero()
	} else {
		f.Set(reflect.ValueOf(x))
	}
	return s
}

func TestFieldsAreAll(t *testing.T) {
	var l []string
	for _, f := range reflect.VisibleFields(reflect.TypeFor[ast.Stmt]()) {
		l = append(l, f.Name)
	}
	if len(l) != 1+len(fields()) || l[0] != "Kind" {
		t.Fatal(l)
	}
	for _, f := range fields() {
		if !slices.Contains(l, f.name) {
			t.Error(f.name)
		}
	}
}

func TestEachKind(t *testing.T) {
	seen := 0
	for _, x := range samples() {
		wantStmt(t, x.s, x.text)
		seen |= 1 << x.s.Kind
	}
	if seen != 1<<16-2 {
		t.Errorf("not all Kinds: %b", seen)
	}
}

func TestFieldsThatMayBeMissing(t *testing.T) {
	for _, x := range samples() {
		for _, f := range fields() {
			if own := strings.Fields(x.must + " " + x.free); slices.Contains(own, f.name) {
				asWanted(t, slices.Contains(strings.Fields(x.free), f.name), with(x.s, f.name, nil))
			}
		}
	}
}

func TestFieldsThatAreNotAKindsOwn(t *testing.T) {
	for _, x := range samples() {
		own := strings.Fields(x.must + " " + x.free)
		for _, f := range fields() {
			for _, v := range f.some {
				asWanted(t, slices.Contains(own, f.name), with(x.s, f.name, v))
			}
		}
	}
	for _, x := range samples() {
		own := strings.Fields(x.must + " " + x.free)
		for _, name := range []string{"Name", "Table", "Col"} {
			for _, s := range noNames() {
				wantWrong(t, with(x.s, name, s))
			}
		}
		for _, n := range []int{-1, -1000, math.MinInt, math.MaxInt, 1000, 256} {
			if !slices.Contains(own, "Event") {
				wantWrong(t, with(x.s, "Event", n))
				wantWrong(t, with(x.s, "Priority", n))
			}
		}
		wantWrong(t, with(x.s, "Acts", acts(x.s)))
	}
}

func TestTextsWithoutWhatMayBeMissing(t *testing.T) {
	where, u := exprs(col("a")), from(ast.Source{Table: "u"})
	for text, s := range map[string]ast.Stmt{
		"SELECT * FROM u":                                            {Kind: 15, From: u},
		"SELECT * FROM u WHERE a":                                    {Kind: 15, From: u, Where: where},
		"SELECT a FROM u":                                            {Kind: 15, Items: where, From: u},
		"INSERT INTO t SELECT * FROM u":                              {Kind: 12, Table: "t", From: u},
		"INSERT INTO t SELECT * FROM u WHERE a":                      {Kind: 12, Table: "t", From: u, Where: where},
		"INSERT INTO t SELECT a FROM u":                              {Kind: 12, Table: "t", Items: where, From: u},
		"INSERT INTO t VALUES (a)":                                   {Kind: 12, Table: "t", Values: where},
		"UPDATE t SET a = a":                                         {Kind: 13, Table: "t", Sets: sets(ast.Set{Col: "a", E: col("a")})},
		"DELETE FROM t":                                              {Kind: 14, Table: "t"},
		"CREATE TABLE t (a BOOL)":                                    {Kind: 6, Name: "t", Cols: []api.Column{{Name: "a", Type: 1}}},
		"CREATE RULE r PRIORITY 0 ON INSERT TO t ALWAYS DO ROLLBACK": {Kind: 8, Name: "r", Event: 1, Table: "t", Rolls: true},
		"CREATE RULE r PRIORITY 0 ON DELETE TO t WHEN u DO ROLLBACK": {Kind: 8, Name: "r", Event: 2, Table: "t", From: u, Rolls: true},
		"CREATE RULE r PRIORITY 0 ON UPDATE TO t ALWAYS DO INSERT INTO u SELECT a FROM u WHERE a; UPDATE t SET a = a; DELETE FROM t; DELETE FROM u END": {
			Kind: 8, Name: "r", Event: 3, Table: "t", Acts: acts(
				ast.Stmt{Kind: 12, Table: "u", Items: where, From: u, Where: where},
				ast.Stmt{Kind: 13, Table: "t", Sets: sets(ast.Set{Col: "a", E: col("a")})},
				ast.Stmt{Kind: 14, Table: "t"}, ast.Stmt{Kind: 14, Table: "u"})},
	} {
		wantStmt(t, s, text)
	}
}

func TestKindsThatAreNone(t *testing.T) {
	for _, kind := range []int{0, -1, -2, -14, 16, 17, 20, 255, 256, 257, 256 + 14, 1<<32 + 1, math.MinInt, math.MinInt + 1, math.MaxInt} {
		wantWrong(t, ast.Stmt{Kind: kind})
		for _, x := range samples() {
			x.s.Kind = kind
			wantWrong(t, x.s)
		}
		for _, f := range fields() {
			for _, v := range f.some {
				wantWrong(t, with(ast.Stmt{Kind: kind}, f.name, v))
			}
		}
	}
}

// Of all fields there are just those of the Kind: no Kind takes what another one has, but where they have the same.
func TestKindsWithTheFieldsOfOthers(t *testing.T) {
	same := map[int]int{1: 1, 2: 1, 3: 1, 4: 4, 5: 4, 9: 4, 10: 4, 11: 4}
	for _, x := range samples() {
		for kind := 1; kind <= 15; kind++ {
			s := x.s
			s.Kind = kind
			asWanted(t, kind == x.s.Kind || same[kind] != 0 && same[kind] == same[x.s.Kind], s)
		}
	}
}

// named is a statement with a name somewhere in it, whose text stands for the @; perhaps it may be missing.
type named struct {
	text string
	of   func(s string) ast.Stmt
	free bool
}

func namePlaces() []named {
	tables := func(s string) []ast.Source { return from(ast.Source{Table: "u"}, ast.Source{Table: s, Var: "v"}) }
	rule := ast.Stmt{Kind: 8, Name: "r", Event: 1, Table: "t", Rolls: true}
	act := func(s ast.Stmt) ast.Stmt {
		return ast.Stmt{Kind: 8, Name: "r", Event: 1, Table: "t", Acts: acts(ast.Stmt{Kind: 14, Table: "t"}, s)}
	}
	return []named{
		{"SAVEPOINT @", func(s string) ast.Stmt { return ast.Stmt{Kind: 4, Name: s} }, false},
		{"ROLLBACK TO @", func(s string) ast.Stmt { return ast.Stmt{Kind: 5, Name: s} }, false},
		{"CREATE TABLE @ (a INT)", func(s string) ast.Stmt {
			return ast.Stmt{Kind: 6, Name: s, Cols: []api.Column{{Name: "a", Type: 2}}}
		}, false},
		{"CREATE TABLE t (y INT, @ TEXT)", func(s string) ast.Stmt {
			return ast.Stmt{Kind: 6, Name: "t", Cols: []api.Column{{Name: "y", Type: 2}, {Name: s, Type: 3}}}
		}, false},
		{"CREATE INDEX @ ON t (c)", func(s string) ast.Stmt { return ast.Stmt{Kind: 7, Name: s, Table: "t", Col: "c"} }, false},
		{"CREATE INDEX n ON @ (c)", func(s string) ast.Stmt { return ast.Stmt{Kind: 7, Name: "n", Table: s, Col: "c"} }, false},
		{"CREATE INDEX n ON t (@)", func(s string) ast.Stmt { return ast.Stmt{Kind: 7, Name: "n", Table: "t", Col: s} }, false},
		{"CREATE RULE @ PRIORITY 0 ON INSERT TO t ALWAYS DO ROLLBACK", func(s string) ast.Stmt { return with(rule, "Name", s) }, false},
		{"CREATE RULE r PRIORITY 0 ON INSERT TO @ ALWAYS DO ROLLBACK", func(s string) ast.Stmt { return with(rule, "Table", s) }, false},
		{"CREATE RULE r PRIORITY 0 ON INSERT TO t WHEN u, @ v DO ROLLBACK", func(s string) ast.Stmt { return with(rule, "From", tables(s)) }, false},
		{"CREATE RULE r PRIORITY 0 ON INSERT TO t WHEN u @ DO ROLLBACK", func(s string) ast.Stmt {
			return with(rule, "From", from(ast.Source{Table: "u", Var: s}))
		}, true},
		{"CREATE RULE r PRIORITY 0 ON INSERT TO t WHEN u v, OLD @ DO ROLLBACK", func(s string) ast.Stmt {
			return with(rule, "From", from(ast.Source{Table: "u", Var: "v"}, ast.Source{Kind: 3, Var: s}))
		}, true},
		{"CREATE RULE r PRIORITY 0 ON INSERT TO t ALWAYS DO DELETE FROM t; DELETE FROM @ END", func(s string) ast.Stmt {
			return act(ast.Stmt{Kind: 14, Table: s})
		}, false},
		{"CREATE RULE r PRIORITY 0 ON INSERT TO t ALWAYS DO DELETE FROM t; INSERT INTO t SELECT * FROM u, @ v END", func(s string) ast.Stmt {
			return act(ast.Stmt{Kind: 12, Table: "t", From: tables(s)})
		}, false},
		{"DROP TABLE @", func(s string) ast.Stmt { return ast.Stmt{Kind: 9, Name: s} }, false},
		{"DROP INDEX @", func(s string) ast.Stmt { return ast.Stmt{Kind: 10, Name: s} }, false},
		{"DROP RULE @", func(s string) ast.Stmt { return ast.Stmt{Kind: 11, Name: s} }, false},
		{"INSERT INTO @ VALUES (1)", func(s string) ast.Stmt { return ast.Stmt{Kind: 12, Table: s, Values: exprs(num(1))} }, false},
		{"INSERT INTO @ SELECT * FROM u, x v", func(s string) ast.Stmt { return ast.Stmt{Kind: 12, Table: s, From: tables("x")} }, false},
		{"INSERT INTO t SELECT * FROM u, @ v", func(s string) ast.Stmt { return ast.Stmt{Kind: 12, Table: "t", From: tables(s)} }, false},
		{"UPDATE @ SET a = 1", func(s string) ast.Stmt {
			return ast.Stmt{Kind: 13, Table: s, Sets: sets(ast.Set{Col: "a", E: num(1)})}
		}, false},
		{"UPDATE t SET a = 1, @ = 2", func(s string) ast.Stmt {
			return ast.Stmt{Kind: 13, Table: "t", Sets: sets(ast.Set{Col: "a", E: num(1)}, ast.Set{Col: s, E: num(2)})}
		}, false},
		{"DELETE FROM @", func(s string) ast.Stmt { return ast.Stmt{Kind: 14, Table: s} }, false},
		{"SELECT * FROM u, @ v", func(s string) ast.Stmt { return ast.Stmt{Kind: 15, From: tables(s)} }, false},
		{"SELECT * FROM NEW @", func(s string) ast.Stmt { return ast.Stmt{Kind: 15, From: from(ast.Source{Kind: 4, Var: s})} }, true},
	}
}

func TestNames(t *testing.T) {
	for _, p := range namePlaces() {
		for _, s := range names() {
			wantStmt(t, p.of(s), strings.Replace(p.text, "@", s, 1))
		}
		for _, s := range noNames() {
			wantWrong(t, p.of(s))
		}
		if p.free {
			wantStmt(t, p.of(""), strings.Replace(p.text, " @", "", 1))
		} else {
			wantWrong(t, p.of(""))
		}
	}
}
