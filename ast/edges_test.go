package ast_test

import (
	"fmt"
	"math"
	"slices"
	"strings"
	"testing"

	"tripwire/api"
	"tripwire/ast"
)

// joined is the text of n elements, with what stands between them.
func joined(n int, between string, of func(i int) string) string {
	var l []string
	for i := range n {
		l = append(l, of(i))
	}
	return strings.Join(l, between)
}

// several is n elements.
func several[T any](n int, of func(i int) T) []T {
	var l []T
	for i := range n {
		l = append(l, of(i))
	}
	return l
}

// numbers are n expressions, shown as 0, 1 and so on.
func numbers(n int) []ast.Expr { return several(n, num) }

func numbersText(n int) string { return joined(n, ", ", func(i int) string { return fmt.Sprint(i) }) }

func TestColsByNumber(t *testing.T) {
	for _, n := range []int{0, 1, 2, 3, 5, 6, 7, 8, 40, 1000} {
		name := func(i int) string { return fmt.Sprintf("c%d", i) }
		s := ast.Stmt{Kind: 6, Name: "t", Cols: several(n, func(i int) api.Column { return api.Column{Name: name(i), Type: 2} })}
		if n < 1 || n > 6 {
			wantWrong(t, s)
			continue
		}
		wantStmt(t, s, "CREATE TABLE t ("+joined(n, ", ", func(i int) string { return name(i) + " INT" })+")")
	}
}

func TestColsByWhatTheyAre(t *testing.T) {
	types := []string{"", "BOOL", "INT", "TEXT"}
	one := func(c api.Column) []api.Column {
		return []api.Column{{Name: "x", Type: 1}, c, {Name: "y", Type: 3, Unique: true}}
	}
	for kind := 1; kind <= 3; kind++ {
		for flags := range 4 {
			c := api.Column{Name: "c", Type: kind, NotNull: flags&1 != 0, Unique: flags&2 != 0}
			text := "c " + types[kind] + []string{"", " NOT NULL", " UNIQUE", " NOT NULL UNIQUE"}[flags]
			wantStmt(t, ast.Stmt{Kind: 6, Name: "t", Cols: []api.Column{c}}, "CREATE TABLE t ("+text+")")
			wantStmt(t, ast.Stmt{Kind: 6, Name: "t", Cols: one(c)}, "CREATE TABLE t (x BOOL, "+text+", y TEXT UNIQUE)")
			for _, wrong := range []int{0, -1, 4, 5, 256 + kind, math.MinInt, math.MaxInt} {
				c.Type = wrong
				wantWrong(t, ast.Stmt{Kind: 6, Name: "t", Cols: []api.Column{c}})
				wantWrong(t, ast.Stmt{Kind: 6, Name: "t", Cols: one(c)})
			}
		}
	}
	for a := range 6 {
		for b := range a {
			l := several(6, func(i int) api.Column { return api.Column{Name: "abcdef"[i : i+1], Type: 2} })
			l[a].Name, l[a].Type = l[b].Name, 3
			wantWrong(t, ast.Stmt{Kind: 6, Name: "t", Cols: l})
		}
	}
}

func TestValuesByNumber(t *testing.T) {
	for _, n := range []int{0, 1, 2, 5, 6, 7, 8, 40, 1000} {
		s := ast.Stmt{Kind: 12, Table: "t", Values: numbers(n)}
		if n < 1 || n > 6 {
			wantWrong(t, s)
			wantWrong(t, inRule(s))
			continue
		}
		text := "INSERT INTO t VALUES (" + numbersText(n) + ")"
		wantStmt(t, s, text)
		wantStmt(t, inRule(s), inRuleText(text))
	}
}

// inRule is a rule with an act among others.
func inRule(s ast.Stmt) ast.Stmt {
	return ast.Stmt{Kind: 8, Name: "r", Event: 2, Table: "t", Acts: acts(ast.Stmt{Kind: 14, Table: "t"}, s, ast.Stmt{Kind: 14, Table: "u"})}
}

func inRuleText(text string) string {
	return "CREATE RULE r PRIORITY 0 ON DELETE TO t ALWAYS DO DELETE FROM t; " + text + "; DELETE FROM u END"
}

func TestSetsByNumber(t *testing.T) {
	for _, n := range []int{0, 1, 2, 5, 6, 7, 8, 40, 1000} {
		s := ast.Stmt{Kind: 13, Table: "t", Sets: several(n, func(i int) ast.Set { return ast.Set{Col: fmt.Sprintf("c%d", i), E: num(i)} })}
		if n < 1 || n > 6 {
			wantWrong(t, s)
			wantWrong(t, with(s, "Where", exprs(num(1))))
			wantWrong(t, inRule(s))
			continue
		}
		text := "UPDATE t SET " + joined(n, ", ", func(i int) string { return fmt.Sprintf("c%d = %d", i, i) })
		wantStmt(t, s, text)
		wantStmt(t, with(s, "Where", exprs(num(1))), text+" WHERE 1")
		wantStmt(t, inRule(s), inRuleText(text))
	}
	wantStmt(t, ast.Stmt{Kind: 13, Table: "t", Sets: sets(ast.Set{Col: "a", E: num(1)}, ast.Set{Col: "a", E: num(2)})}, "UPDATE t SET a = 1, a = 2")
	wantWrong(t, ast.Stmt{Kind: 13, Table: "t", Sets: sets(ast.Set{Col: "a", E: num(1)}, ast.Set{})})
	wantWrong(t, ast.Stmt{Kind: 13, Table: "t", Sets: sets(ast.Set{Col: "a"})})
	wantWrong(t, ast.Stmt{Kind: 13, Table: "t", Sets: sets(ast.Set{E: num(1)})})
}

func TestItemsByNumber(t *testing.T) {
	for _, n := range []int{0, 1, 2, 6, 7, 39, 40, 41, 42, 80, 1000} {
		s := ast.Stmt{Kind: 15, Items: numbers(n), From: from(ast.Source{Table: "u"})}
		put := with(with(s, "Kind", 12), "Table", "t")
		if n > 40 {
			wantWrong(t, s)
			wantWrong(t, put)
			wantWrong(t, inRule(put))
			continue
		}
		text := "SELECT " + numbersText(n) + " FROM u"
		if n == 0 {
			text = "SELECT * FROM u"
		}
		wantStmt(t, s, text)
		wantStmt(t, put, "INSERT INTO t "+text)
		wantStmt(t, inRule(put), inRuleText("INSERT INTO t "+text))
	}
}

// selecting are statements that have sources, whose texts stand for the @; behind WHEN there may be none.
func selecting(l []ast.Source, where []ast.Expr) map[string]ast.Stmt {
	put := ast.Stmt{Kind: 12, Table: "t", From: l, Where: where}
	return map[string]ast.Stmt{
		"SELECT * FROM @":                           {Kind: 15, From: l, Where: where},
		"SELECT 0 FROM @":                           {Kind: 15, Items: numbers(1), From: l, Where: where},
		"INSERT INTO t SELECT * FROM @":             put,
		"INSERT INTO t SELECT 0, 1 FROM @":          with(put, "Items", numbers(2)),
		inRuleText("INSERT INTO t SELECT * FROM @"): inRule(put),
		"CREATE RULE r PRIORITY 5 ON INSERT TO t WHEN @ DO ROLLBACK": {
			Kind: 8, Name: "r", Priority: 5, Event: 1, Table: "t", From: l, Where: where, Rolls: true},
		"CREATE RULE r PRIORITY 5 ON INSERT TO t DEFERRED WHEN @ DO DELETE FROM u END": {
			Kind: 8, Name: "r", Priority: 5, Event: 1, Table: "t", Deferred: true, From: l, Where: where, Acts: acts(ast.Stmt{Kind: 14, Table: "u"})},
	}
}

func TestFromByNumber(t *testing.T) {
	sources := []ast.Source{{Table: "t"}, {Kind: 1, Var: "v"}, {Table: "u", Var: "w"}, {Kind: 4}, {Kind: 2}}
	texts := []string{"t", "INSERTED v", "u w", "NEW", "DELETED"}
	for n := range 6 {
		for text, s := range selecting(sources[:n], nil) {
			switch {
			case n == 0 && strings.Contains(text, "WHEN @"):
				wantStmt(t, s, strings.Replace(text, "WHEN @", "ALWAYS", 1))
			case n == 0 || n > 3:
				wantWrong(t, s)
			default:
				wantStmt(t, s, strings.Replace(text, "@", strings.Join(texts[:n], ", "), 1))
			}
		}
	}
}

func TestWhereByNumber(t *testing.T) {
	sources := from(ast.Source{Table: "t"})
	all := selecting(sources, nil)
	all["DELETE FROM @"] = ast.Stmt{Kind: 14, Table: "t"}
	all["UPDATE t SET t = @"] = ast.Stmt{Kind: 13, Table: "t", Sets: sets(ast.Set{Col: "t", E: col("t")})}
	for text, s := range all {
		if len(s.Acts) > 1 {
			continue // an act has the sources
		}
		for n := range 5 {
			x := with(s, "Where", several(n, num))
			switch n {
			case 0:
				wantStmt(t, x, strings.Replace(text, "@", "t", 1))
			case 1:
				wantStmt(t, x, strings.Replace(text, "@", "t WHERE 0", 1))
			default:
				wantWrong(t, x)
			}
		}
	}
	for text, s := range selecting(sources, exprs(col("a"))) {
		wantStmt(t, s, strings.Replace(text, "@", "t WHERE a", 1))
	}
	for _, s := range selecting(sources, exprs(col("a"), col("a"))) {
		wantWrong(t, s)
	}
	for _, s := range selecting(nil, exprs(col("a"))) {
		wantWrong(t, s) // also of a rule that has a Where and no sources
	}
}

func TestSources(t *testing.T) {
	words := []string{"", "INSERTED", "DELETED", "OLD", "NEW"}
	for _, kind := range []int{-1, 0, 1, 2, 3, 4, 5, 6, 255, 256, 257, -2, math.MinInt, math.MaxInt} {
		for _, table := range append(names(), append(noNames(), "")...) {
			for _, name := range []string{"", "v", "abcdefghijklmnop", "V", "abcdefghijklmnopq", " "} {
				x := ast.Source{Kind: kind, Table: table, Var: name}
				right := kind >= 0 && kind <= 4 && (kind == 0) == slices.Contains(names(), table) && (kind == 0 || table == "") &&
					(name == "" || name == "v" || len(name) == 16)
				for text, s := range selecting(from(x), nil) {
					if !right {
						wantWrong(t, s)
						continue
					}
					own := table + words[kind]
					if name != "" {
						own += " " + name
					}
					wantStmt(t, s, strings.Replace(text, "@", own, 1))
				}
			}
		}
	}
}

// One wrong source among three is enough, wherever it stands; two that are alike are right here.
func TestSourcesAmongOthers(t *testing.T) {
	for at := range 3 {
		for _, wrong := range []ast.Source{{}, {Table: "T"}, {Kind: 5}, {Kind: -1}, {Kind: 1, Table: "t"}, {Table: "t", Var: "_"}} {
			l := from(ast.Source{Table: "t"}, ast.Source{Kind: 1}, ast.Source{Table: "u", Var: "v"})
			l[at] = wrong
			for _, s := range selecting(l, nil) {
				wantWrong(t, s)
			}
		}
	}
	for text, s := range selecting(from(ast.Source{Table: "t", Var: "v"}, ast.Source{Table: "t", Var: "v"}, ast.Source{Kind: 3, Var: "v"}), nil) {
		wantStmt(t, s, strings.Replace(text, "@", "t v, t v, OLD v", 1))
	}
}

func TestInsertHasValuesOrASelect(t *testing.T) {
	values, items, where := exprs(num(1)), exprs(num(2)), exprs(num(3))
	for bits := range 16 {
		s := ast.Stmt{Kind: 12, Table: "t"}
		text := "INSERT INTO t"
		if bits&1 != 0 {
			s.Values = values
			text += " VALUES (1)"
		}
		if bits&2 != 0 {
			s.Items = items
			text += " SELECT 2"
		}
		if bits&4 != 0 {
			s.From = from(ast.Source{Kind: 1})
			if bits&2 == 0 {
				text += " SELECT *"
			}
			text += " FROM INSERTED"
		}
		if bits&8 != 0 {
			s.Where = where
			text += " WHERE 3"
		}
		if bits == 1 || bits&5 == 4 {
			wantStmt(t, s, text)
			wantStmt(t, inRule(s), inRuleText(text))
		} else {
			wantWrong(t, s)
			wantWrong(t, inRule(s))
		}
	}
}

func TestActsByNumber(t *testing.T) {
	three := []ast.Stmt{
		{Kind: 14, Table: "t"}, {Kind: 12, Table: "u", Values: exprs(num(1))}, {Kind: 13, Table: "v", Sets: sets(ast.Set{Col: "a", E: num(2)})},
	}
	texts := []string{"DELETE FROM t", "INSERT INTO u VALUES (1)", "UPDATE v SET a = 2"}
	for first := range 3 {
		for _, n := range []int{0, 1, 2, 3, 4, 5, 6, 40, 1000} {
			s := ast.Stmt{Kind: 8, Name: "r", Event: 3, Table: "t", Acts: several(n, func(i int) ast.Stmt { return three[(first+i)%3] })}
			if n < 1 || n > 4 {
				wantWrong(t, s)
			} else {
				text := joined(n, "; ", func(i int) string { return texts[(first+i)%3] })
				wantStmt(t, s, "CREATE RULE r PRIORITY 0 ON UPDATE TO t ALWAYS DO "+text+" END")
			}
			s.Rolls = true // with Acts, whatever they are, it isn't right
			if n > 0 {
				wantWrong(t, s)
			} else {
				wantStmt(t, s, "CREATE RULE r PRIORITY 0 ON UPDATE TO t ALWAYS DO ROLLBACK")
			}
		}
	}
}

// Each Kind as an act, alone and among others.
func TestActsByKind(t *testing.T) {
	for _, x := range samples() {
		one := ast.Stmt{Kind: 8, Name: "r", Event: 2, Table: "t", Acts: acts(x.s)}
		if x.s.Kind < 12 || x.s.Kind > 14 {
			wantWrong(t, one)
			wantWrong(t, inRule(x.s))
			continue
		}
		wantStmt(t, one, "CREATE RULE r PRIORITY 0 ON DELETE TO t ALWAYS DO "+x.text+" END")
		wantStmt(t, inRule(x.s), inRuleText(x.text))
	}
	for _, kind := range []int{-1, 0, 16, 17, 256 + 14, math.MinInt, math.MaxInt} {
		wantWrong(t, inRule(ast.Stmt{Kind: kind}))
		wantWrong(t, inRule(ast.Stmt{Kind: kind, Table: "t"}))
	}
}

func TestPriorities(t *testing.T) {
	for _, n := range []int{0, 1, 9, 10, 99, 100, 500, 998, 999, -1, -999, 1000, 1001, 1 << 32, math.MinInt, math.MaxInt} {
		s := ast.Stmt{Kind: 8, Name: "r", Priority: n, Event: 1, Table: "t", Rolls: true}
		if n < 0 || n > 999 {
			wantWrong(t, s)
			continue
		}
		wantStmt(t, s, fmt.Sprintf("CREATE RULE r PRIORITY %d ON INSERT TO t ALWAYS DO ROLLBACK", n))
	}
}

func TestEvents(t *testing.T) {
	words := []string{1: "INSERT", 2: "DELETE", 3: "UPDATE"}
	for _, n := range []int{0, 1, 2, 3, 4, 5, -1, -2, 256, 257, 1<<32 + 1, math.MinInt, math.MaxInt} {
		for _, deferred := range []bool{false, true} {
			s := ast.Stmt{Kind: 8, Name: "r", Event: n, Table: "t", Deferred: deferred, Rolls: true}
			if n < 1 || n > 3 {
				wantWrong(t, s)
				continue
			}
			when := ""
			if deferred {
				when = " DEFERRED"
			}
			wantStmt(t, s, "CREATE RULE r PRIORITY 0 ON "+words[n]+" TO t"+when+" ALWAYS DO ROLLBACK")
		}
	}
}

// What is wrong deep within a rule is enough: in any act, wherever it stands.
func TestWrongActsAmongOthers(t *testing.T) {
	good := ast.Stmt{Kind: 14, Table: "t"}
	for _, wrong := range []ast.Stmt{
		{Kind: 14}, {Kind: 14, Table: "T"}, {Kind: 14, Table: "t", Name: "n"}, {Kind: 14, Table: "t", Rolls: true}, {Kind: 14, Table: "t", Acts: acts(good)},
		{Kind: 14, Table: "t", Where: exprs(num(-1))}, {Kind: 14, Table: "t", Where: exprs(op("and", col("a"), op("not", col("A"))))},
		{Kind: 12, Table: "t"}, {Kind: 12, Table: "t", Values: numbers(7)}, {Kind: 13, Table: "t"}, {Kind: 13, Table: "t", Sets: sets(ast.Set{Col: "a"})},
	} {
		for n := 1; n <= 4; n++ {
			for at := range n {
				l := slices.Repeat(acts(good), n)
				l[at] = wrong
				wantWrong(t, ast.Stmt{Kind: 8, Name: "r", Event: 1, Table: "t", Acts: l})
			}
		}
	}
}
