package catalog

import (
	"slices"
	"strings"

	"tripwire/api"
	"tripwire/ast"
	"tripwire/check"
)

// deepest is how many statements and expressions may stand within one another: the document promises nothing beyond it.
const deepest = 1 << 16

// copied is the same catalog, with memory of its own, even for its texts.
func (c Catalog) copied() Catalog {
	return Catalog{
		Tables:  each(c.Tables, ownTable),
		Indexes: each(c.Indexes, Index.own),
		Rules:   each(c.Rules, func(s ast.Stmt) ast.Stmt { return ownStmt(s, deepest) }),
	}
}

// each is a new list, of what own makes of each.
func each[T any](l []T, own func(T) T) []T {
	l = slices.Clone(l)
	for i := range l {
		l[i] = own(l[i])
	}
	return l
}

func (x Index) own() Index {
	return Index{Name: strings.Clone(x.Name), Table: strings.Clone(x.Table), Col: strings.Clone(x.Col)}
}

func ownTable(t check.Table) check.Table {
	return check.Table{Name: strings.Clone(t.Name), Cols: each(t.Cols, ownColumn)}
}

func ownColumn(c api.Column) api.Column {
	c.Name = strings.Clone(c.Name)
	return c
}

func ownSource(s ast.Source) ast.Source {
	return ast.Source{Kind: s.Kind, Table: strings.Clone(s.Table), Var: strings.Clone(s.Var)}
}

// ownStmt gives up where too many stand within one another, so that it ends even where a statement stands within itself.
func ownStmt(s ast.Stmt, most int) ast.Stmt {
	refuse(most == 0, api.ErrArg)
	expr := func(e ast.Expr) ast.Expr { return ownExpr(e, most-1) }
	s.Name, s.Table, s.Col = strings.Clone(s.Name), strings.Clone(s.Table), strings.Clone(s.Col)
	s.Cols, s.From = each(s.Cols, ownColumn), each(s.From, ownSource)
	s.Values, s.Items, s.Where = each(s.Values, expr), each(s.Items, expr), each(s.Where, expr)
	s.Sets = each(s.Sets, func(x ast.Set) ast.Set { return ast.Set{Col: strings.Clone(x.Col), E: expr(x.E)} })
	s.Acts = each(s.Acts, func(act ast.Stmt) ast.Stmt { return ownStmt(act, most-1) })
	return s
}

func ownExpr(e ast.Expr, most int) ast.Expr {
	refuse(most == 0, api.ErrArg)
	e.Op, e.Var, e.Col, e.V.S = strings.Clone(e.Op), strings.Clone(e.Var), strings.Clone(e.Col), strings.Clone(e.V.S)
	e.Kids = each(e.Kids, func(kid ast.Expr) ast.Expr { return ownExpr(kid, most-1) })
	return e
}
