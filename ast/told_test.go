package ast_test

import (
	"fmt"
	"reflect"
	"regexp"
	"slices"
	"strings"

	"tripwire/api"
	"tripwire/ast"
)

// Here the chapter's words are read anew: as tables of the fields that a Kind has, each of which is right or not for
// itself, and as patterns of texts.

// waysOf is which fields a Kind has, way by way: a Rule has sources or none, and acts or a ROLLBACK.
func waysOf(kind int) []string {
	rule := "Name Priority Event Table Deferred "
	return map[int][]string{
		1: {""}, 2: {""}, 3: {""}, 4: {"Name"}, 5: {"Name"}, 6: {"Name Cols"}, 7: {"Name Table Col"},
		8: {rule + "Rolls", rule + "Acts", rule + "From Where Rolls", rule + "From Where Acts"},
		9: {"Name"}, 10: {"Name"}, 11: {"Name"},
		12: {"Table Values", "Table Items From Where"}, 13: {"Table Sets Where"}, 14: {"Table Where"}, 15: {"Items From Where"},
	}[kind]
}

func empty(v reflect.Value) bool {
	return v.IsZero() || v.Kind() == reflect.Slice && v.Len() == 0
}

func toldRight(s ast.Stmt) bool {
	return slices.ContainsFunc(waysOf(s.Kind), func(way string) bool {
		for _, f := range fields() {
			switch has := slices.Contains(strings.Fields(way), f.name); {
			case has && !toldField(s, f.name):
				return false
			case !has && !empty(reflect.ValueOf(s).FieldByName(f.name)):
				return false
			}
		}
		return true
	})
}

func toldField(s ast.Stmt, name string) bool {
	switch name {
	case "Name":
		return toldName(s.Name)
	case "Table":
		return toldName(s.Table)
	case "Col":
		return toldName(s.Col)
	case "Cols":
		return toldCols(s.Cols)
	case "Values":
		return toldList(s.Values, 1, 6, toldExpr)
	case "Items":
		return toldList(s.Items, 0, 40, toldExpr)
	case "Where":
		return toldList(s.Where, 0, 1, toldExpr)
	case "Sets":
		return toldList(s.Sets, 1, 6, func(x ast.Set) bool { return toldName(x.Col) && toldExpr(x.E) })
	case "From":
		return toldList(s.From, 1, 3, toldSource)
	case "Priority":
		return s.Priority >= 0 && len(fmt.Sprint(s.Priority)) <= 3
	case "Event":
		return s.Event == 1 || s.Event == 2 || s.Event == 3
	case "Rolls":
		return s.Rolls
	case "Acts":
		return toldList(s.Acts, 1, 4, func(a ast.Stmt) bool { return a.Kind >= 12 && a.Kind <= 14 && toldRight(a) })
	}
	return name == "Deferred"
}

func toldList[T any](l []T, least, most int, right func(T) bool) bool {
	count := 0
	for _, x := range l {
		if !right(x) {
			return false
		}
		count++
	}
	return count >= least && count <= most
}

var (
	aName  = regexp.MustCompile(`\A[a-z][a-z0-9_]{0,15}\z`)
	aField = regexp.MustCompile(`\{[A-Za-z]+\}`)
)

func toldName(s string) bool { return aName.MatchString(s) }

func toldCols(l []api.Column) bool {
	seen := map[string]bool{}
	for _, c := range l {
		if !toldName(c.Name) || seen[c.Name] || c.Type != 1 && c.Type != 2 && c.Type != 3 {
			return false
		}
		seen[c.Name] = true
	}
	return len(seen) > 0 && len(seen) < 7
}

func toldSource(s ast.Source) bool {
	var table bool
	switch s.Kind {
	case 0:
		table = toldName(s.Table)
	case 1, 2, 3, 4:
		table = s.Table == ""
	}
	return table && (s.Var == "" || toldName(s.Var))
}

func toldExpr(e ast.Expr) bool { return toldDepth(e) <= 20 && toldParts(e) }

func toldDepth(e ast.Expr) int {
	most := 0
	for _, kid := range e.Kids {
		most = max(most, toldDepth(kid))
	}
	return most + 1
}

// toldParts leaves out how deep it is.
func toldParts(e ast.Expr) bool {
	at := slices.IndexFunc(ops(), func(k known) bool { return k.name == e.Op })
	if at < 0 || ops()[at].kids != len(e.Kids) {
		return false
	}
	v, name, rest := e.V != api.Value{}, e.Col != "", e.Var != ""
	switch e.Op {
	case "value":
		v = !toldValue(e.V)
	case "column":
		name, rest = !toldName(e.Col), rest && !toldName(e.Var)
	}
	return !v && !name && !rest && toldList(e.Kids, 0, 2, toldParts)
}

func toldValue(v api.Value) bool {
	return v == api.Value{} || v == api.Value{Kind: 1} || v == api.Value{Kind: 1, N: 1} ||
		v == api.Value{Kind: 2, N: v.N} && v.N >= 0 || v == api.Value{Kind: 3, S: v.S} && len(v.S) < 25
}

// told is a right statement's text.
func told(s ast.Stmt) string {
	if !toldRight(s) {
		return ""
	}
	pattern := []string{
		1: "BEGIN", 2: "COMMIT", 3: "ABORT", 4: "SAVEPOINT {Name}", 5: "ROLLBACK TO {Name}",
		6: "CREATE TABLE {Name} ({Cols})", 7: "CREATE INDEX {Name} ON {Table} ({Col})",
		8: "CREATE RULE {Name} PRIORITY {Priority} ON {Event} TO {Table}{Deferred} {When} DO {Do}",
		9: "DROP TABLE {Name}", 10: "DROP INDEX {Name}", 11: "DROP RULE {Name}",
		12: "INSERT INTO {Table} {Rows}", 13: "UPDATE {Table} SET {Sets}{Where}", 14: "DELETE FROM {Table}{Where}",
		15: "SELECT {Items} FROM {From}{Where}",
	}[s.Kind]
	return aField.ReplaceAllStringFunc(pattern, func(field string) string {
		return toldPart(s, strings.Trim(field, "{}"))
	})
}

func toldPart(s ast.Stmt, name string) string {
	choose := func(first bool, a, b string) string {
		if first {
			return a
		}
		return b
	}
	selects := fmt.Sprintf("SELECT %s FROM %s%s", toldItems(s), toldAll(s.From, ", ", toldSourceText), toldWhere(s))
	switch name {
	case "Name", "Table", "Col", "Priority":
		return fmt.Sprint(reflect.ValueOf(s).FieldByName(name))
	case "Cols":
		return toldAll(s.Cols, ", ", func(c api.Column) string {
			return c.Name + []string{"", " BOOL", " INT", " TEXT"}[c.Type] + choose(c.NotNull, " NOT NULL", "") + choose(c.Unique, " UNIQUE", "")
		})
	case "Event":
		return []string{"", "INSERT", "DELETE", "UPDATE"}[s.Event]
	case "Deferred":
		return choose(s.Deferred, " DEFERRED", "")
	case "When":
		return choose(len(s.From) == 0, "ALWAYS", "WHEN "+toldAll(s.From, ", ", toldSourceText)+toldWhere(s))
	case "Do":
		return choose(s.Rolls, "ROLLBACK", toldAll(s.Acts, "; ", told)+" END")
	case "Rows":
		return choose(len(s.Values) > 0, "VALUES ("+toldAll(s.Values, ", ", toldText)+")", selects)
	case "Sets":
		return toldAll(s.Sets, ", ", func(x ast.Set) string { return x.Col + " = " + toldText(x.E) })
	case "Items":
		return toldItems(s)
	case "From":
		return toldAll(s.From, ", ", toldSourceText)
	}
	return toldWhere(s)
}

func toldAll[T any](l []T, between string, text func(T) string) string {
	var texts []string
	for _, x := range l {
		texts = append(texts, text(x))
	}
	return strings.Join(texts, between)
}

func toldItems(s ast.Stmt) string {
	if len(s.Items) == 0 {
		return "*"
	}
	return toldAll(s.Items, ", ", toldText)
}

func toldWhere(s ast.Stmt) string {
	return strings.TrimSuffix(" WHERE "+toldAll(s.Where, "?", toldText), " WHERE ")
}

func toldSourceText(s ast.Source) string {
	return strings.TrimSuffix([]string{s.Table, "INSERTED", "DELETED", "OLD", "NEW"}[s.Kind]+" "+s.Var, " ")
}

// toldText is a right expression's text.
func toldText(e ast.Expr) string {
	switch {
	case e.Op == "value":
		return toldValueText(e.V)
	case e.Op == "column":
		return strings.TrimPrefix(e.Var+"."+e.Col, ".")
	case e.Op == "null":
		return fmt.Sprintf("(%s IS NULL)", toldText(e.Kids[0]))
	case len(e.Kids) == 1:
		return fmt.Sprintf("(%s %s)", map[string]string{"neg": "-", "not": "NOT"}[e.Op], toldText(e.Kids[0]))
	}
	word := strings.NewReplacer("and", "AND", "or", "OR").Replace(e.Op)
	return fmt.Sprintf("(%s %s %s)", toldText(e.Kids[0]), word, toldText(e.Kids[1]))
}

func toldValueText(v api.Value) string {
	switch v.Kind {
	case 0:
		return "NULL"
	case 1:
		return strings.ToUpper(fmt.Sprint(v.N == 1))
	case 2:
		return fmt.Sprint(v.N)
	}
	return "'" + strings.Join(strings.Split(v.S, "'"), "''") + "'"
}
