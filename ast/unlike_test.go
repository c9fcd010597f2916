package ast_test

import (
	"reflect"
	"testing"

	"tripwire/api"
	"tripwire/ast"
)

// seen has the texts that were met, and fails at one that was met already.
type seen struct {
	t     *testing.T
	texts map[string]struct{}
}

func (m seen) meet(text string) {
	m.t.Helper()
	if _, ok := m.texts[text]; ok || text == "" {
		m.t.Fatalf("two have the text %q", text)
	}
	m.texts[text] = struct{}{}
}

// met is for what is told just once each: all of it is unlike.
func met(t *testing.T) seen { return seen{t, map[string]struct{}{}} }

// about are all expressions of one Op about others of a list.
func about(l []ast.Expr) []ast.Expr {
	var out []ast.Expr
	for _, k := range ops()[2:] {
		for _, x := range l {
			if k.kids == 1 {
				out = append(out, op(k.name, x))
				continue
			}
			for _, y := range l {
				out = append(out, op(k.name, x, y))
			}
		}
	}
	return out
}

func TestUnlikeExpressions(t *testing.T) {
	leaves := exprs(
		val(api.Value{}), val(api.Value{Kind: 1}), val(api.Value{Kind: 1, N: 1}), num(0), num(1), num(10), num(11),
		str(""), str("a"), str("'"), str("''"), str("NULL"), str("1"), str("a.b"), str("TRUE"), str(" "), str("a' + 'b"), str("a + b"),
		col("a"), col("b"), col("ab"), col("null"), col("a1"), dot("a", "b"), dot("b", "a"), dot("a", "a"), dot("ab", "a"), dot("a", "ba"),
	)
	m := met(t)
	for _, e := range append(leaves, about(leaves)...) {
		m.meet(ast.ShowExpr(e))
	}
	few := exprs(num(1), col("a"), str("(a)"))
	few = append(few, about(few)...)
	m = met(t)
	for _, e := range append(few[:3:3], about(few)...) {
		m.meet(ast.ShowExpr(e))
	}
}

// lists are all lists of elements of l that have least to most of them.
func lists[T any](l []T, least, most int) [][]T {
	var all [][]T
	if least == 0 {
		all = append(all, nil)
	}
	if most == 0 {
		return all
	}
	for _, x := range l {
		for _, rest := range lists(l, max(least-1, 0), most-1) {
			all = append(all, append([]T{x}, rest...))
		}
	}
	return all
}

// small are all statements of a few names, sources and expressions, but for rules.
func small() []ast.Stmt {
	two := []string{"a", "b"}
	some := exprs(num(1), col("a"), op("=", col("a"), num(1)))
	sources := []ast.Source{{Table: "a"}, {Table: "b", Var: "a"}, {Kind: 1}, {Kind: 2, Var: "b"}, {Kind: 3}, {Kind: 4}, {Table: "a", Var: "b"}}
	columns := []api.Column{{Name: "a", Type: 1}, {Name: "a", Type: 2, NotNull: true}, {Name: "b", Type: 2}, {Name: "b", Type: 3, Unique: true}, {Name: "b", Type: 3, NotNull: true, Unique: true}}
	change := sets(ast.Set{Col: "a", E: num(1)}, ast.Set{Col: "b", E: num(1)}, ast.Set{Col: "a", E: op("=", col("b"), num(1))})
	where := lists(some, 0, 1)
	all := []ast.Stmt{{Kind: 1}, {Kind: 2}, {Kind: 3}}
	for _, s := range two {
		for _, kind := range []int{4, 5, 9, 10, 11} {
			all = append(all, ast.Stmt{Kind: kind, Name: s})
		}
		for _, l := range lists(columns, 1, 2) {
			all = append(all, ast.Stmt{Kind: 6, Name: s, Cols: l})
		}
		for _, table := range two {
			all = append(all, ast.Stmt{Kind: 7, Name: s, Table: table, Col: "a"}, ast.Stmt{Kind: 7, Name: s, Table: table, Col: "b"})
		}
		for _, l := range lists(some, 1, 3) {
			all = append(all, ast.Stmt{Kind: 12, Table: s, Values: l})
		}
		for _, w := range where {
			all = append(all, ast.Stmt{Kind: 14, Table: s, Where: w})
			for _, l := range lists(change, 1, 3) {
				all = append(all, ast.Stmt{Kind: 13, Table: s, Sets: l, Where: w})
			}
		}
	}
	for _, items := range lists(some, 0, 2) {
		for _, l := range lists(sources, 1, 2) {
			for _, w := range where {
				all = append(all, ast.Stmt{Kind: 15, Items: items, From: l, Where: w}, ast.Stmt{Kind: 12, Table: "a", Items: items, From: l, Where: w})
			}
		}
	}
	return all
}

// smallRules are all rules of a few events, sources and acts.
func smallRules() []ast.Stmt {
	var all []ast.Stmt
	whens := []ast.Stmt{{}}
	for _, l := range lists(from(ast.Source{Table: "a"}, ast.Source{Kind: 1, Var: "a"}, ast.Source{Kind: 3}), 1, 2) {
		for _, w := range lists(exprs(num(1), col("a")), 0, 1) {
			whens = append(whens, ast.Stmt{From: l, Where: w})
		}
	}
	does := append(lists(acts(
		ast.Stmt{Kind: 14, Table: "a"}, ast.Stmt{Kind: 14, Table: "a", Where: exprs(num(1))}, ast.Stmt{Kind: 12, Table: "b", Values: exprs(num(1))},
		ast.Stmt{Kind: 12, Table: "b", From: from(ast.Source{Kind: 1})}, ast.Stmt{Kind: 13, Table: "a", Sets: sets(ast.Set{Col: "a", E: num(1)})},
	), 1, 3), nil)
	for n := range 2 * 3 * 2 * 2 {
		s := ast.Stmt{Kind: 8, Name: "r", Priority: n % 2 * 11, Event: 1 + n/2%3, Table: "ab"[n/6%2 : n/6%2+1], Deferred: n >= 12}
		for _, when := range whens {
			for _, do := range does {
				s.From, s.Where, s.Acts, s.Rolls = when.From, when.Where, do, do == nil
				all = append(all, s)
			}
		}
	}
	return all
}

func TestUnlikeSmallStatements(t *testing.T) {
	m := met(t)
	right := 0
	for _, s := range append(small(), smallRules()...) {
		if s.Kind == ast.Table && !toldRight(s) {
			wantWrong(t, s) // a column twice
			continue
		}
		right++
		m.meet(ast.Show(s))
	}
	if right < 100000 {
		t.Errorf("just %d", right)
	}
}

// Of two that differ in one place, or a few, and are both right, the texts differ.
func TestUnlikeNeighbours(t *testing.T) {
	pairs := 0
	for seed := range uint64(12000) {
		s := byChance(seed)
		for more := range uint64(4) {
			x := altered(seed, 10+more)
			if !ast.Right(x) || reflect.DeepEqual(s, x) {
				continue
			}
			pairs++
			if ast.Show(s) == ast.Show(x) {
				t.Fatalf("%s and %s have the text %q", short(s), short(x), ast.Show(s))
			}
		}
	}
	if pairs < 10000 {
		t.Errorf("just %d pairs", pairs)
	}
}

func TestUnlikeByChance(t *testing.T) {
	texts := map[string]ast.Stmt{}
	for seed := range uint64(40000) {
		s := byChance(seed)
		text := ast.Show(s)
		if other, ok := texts[text]; ok && !reflect.DeepEqual(s, other) {
			t.Fatalf("%s and %s have the text %q", short(s), short(other), text)
		}
		texts[text] = s
	}
	if len(texts) < 10000 {
		t.Errorf("just %d texts", len(texts))
	}
}
