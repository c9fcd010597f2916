package ast

import (
	"strconv"
	"strings"

	"tripwire/api"
	"tripwire/value"
)

// The words of columns' Types, of transitions and of events, each at its number.
var (
	types       = [4]string{"", "BOOL", "INT", "TEXT"}
	transitions = [5]string{"", "INSERTED", "DELETED", "OLD", "NEW"}
	events      = [4]string{"", "INSERT", "DELETE", "UPDATE"}
)

// What stands between a list's texts.
const (
	comma = ", "
	then  = "; " // of acts
)

// ShowExpr is an expression's text.
func ShowExpr(e Expr) string {
	if !RightExpr(e) {
		return ""
	}
	return exprText(e)
}

// exprText writes into one builder: so a text is written once, however deep it stands, and a lone column's is new memory too.
func exprText(e Expr) string {
	var b strings.Builder
	writeExpr(&b, e)
	return b.String()
}

func writeExpr(b *strings.Builder, e Expr) {
	switch e.Op {
	case opValue:
		b.WriteString(value.Show(e.V))
	case opColumn:
		writeColumn(b, e)
	case opNeg:
		writeKid(b, "(- ", e.Kids[0], ")")
	case opNot:
		writeKid(b, "(NOT ", e.Kids[0], ")")
	case opNull:
		writeKid(b, "(", e.Kids[0], " IS NULL)")
	default:
		writeKid(b, "(", e.Kids[0], " "+strings.ToUpper(e.Op)+" ")
		writeKid(b, "", e.Kids[1], ")")
	}
}

func writeColumn(b *strings.Builder, e Expr) {
	if e.Var != "" {
		b.WriteString(e.Var)
		b.WriteByte('.')
	}
	b.WriteString(e.Col)
}

// writeKid writes a Kid between what stands ahead of it and behind it.
func writeKid(b *strings.Builder, ahead string, kid Expr, behind string) {
	b.WriteString(ahead)
	writeExpr(b, kid)
	b.WriteString(behind)
}

// Show is a statement's text.
func Show(s Stmt) string {
	if !Right(s) {
		return ""
	}
	return stmtText(s)
}

// stmtText is that of a right statement.
func stmtText(s Stmt) string {
	switch s.Kind {
	case Begin:
		return "BEGIN"
	case Commit:
		return "COMMIT"
	case Abort:
		return "ABORT"
	case Save:
		return "SAVEPOINT " + s.Name
	case Back:
		return "ROLLBACK TO " + s.Name
	case Table:
		return "CREATE TABLE " + s.Name + " (" + list(s.Cols, columnText, comma) + ")"
	case Index:
		return "CREATE INDEX " + s.Name + " ON " + s.Table + " (" + s.Col + ")"
	case Rule:
		return ruleText(s)
	case DropTable:
		return "DROP TABLE " + s.Name
	case DropIndex:
		return "DROP INDEX " + s.Name
	case DropRule:
		return "DROP RULE " + s.Name
	case Insert:
		return "INSERT INTO " + s.Table + " " + rowsText(s)
	case Update:
		return "UPDATE " + s.Table + " SET " + list(s.Sets, Set.text, comma) + whereText(s)
	case Delete:
		return "DELETE FROM " + s.Table + whereText(s)
	}
	return selectText(s)
}

// list is the texts of a list's elements, with what stands between them.
func list[T any](l []T, text func(T) string, between string) string {
	var b strings.Builder
	for i, x := range l {
		if i > 0 {
			b.WriteString(between)
		}
		b.WriteString(text(x))
	}
	return b.String()
}

func columnText(c api.Column) string {
	text := c.Name + " " + types[c.Type]
	if c.NotNull {
		text += " NOT NULL"
	}
	if c.Unique {
		text += " UNIQUE"
	}
	return text
}

func (x Set) text() string { return x.Col + " = " + exprText(x.E) }

func sourceText(s Source) string {
	text := s.Table
	if s.Kind > 0 {
		text = transitions[s.Kind]
	}
	if s.Var != "" {
		text += " " + s.Var
	}
	return text
}

func ruleText(s Stmt) string {
	head := "CREATE RULE " + s.Name + " PRIORITY " + strconv.Itoa(s.Priority) + " ON " + events[s.Event] + " TO " + s.Table
	if s.Deferred {
		head += " DEFERRED"
	}
	return head + " " + whenText(s) + " DO " + doText(s)
}

func whenText(s Stmt) string {
	if len(s.From) == 0 {
		return "ALWAYS"
	}
	return "WHEN " + list(s.From, sourceText, comma) + whereText(s)
}

func doText(s Stmt) string {
	if s.Rolls {
		return "ROLLBACK"
	}
	return list(s.Acts, stmtText, then) + " END"
}

// rowsText is what an Insert inserts.
func rowsText(s Stmt) string {
	if len(s.Values) == 0 {
		return selectText(s)
	}
	return "VALUES (" + list(s.Values, exprText, comma) + ")"
}

// selectText is a Select's text, also within an Insert.
func selectText(s Stmt) string {
	items := "*"
	if len(s.Items) > 0 {
		items = list(s.Items, exprText, comma)
	}
	return "SELECT " + items + " FROM " + list(s.From, sourceText, comma) + whereText(s)
}

// whereText has the blank ahead of it, since there may be none.
func whereText(s Stmt) string {
	if len(s.Where) == 0 {
		return ""
	}
	return " WHERE " + exprText(s.Where[0])
}
