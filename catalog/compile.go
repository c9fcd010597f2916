package catalog

import (
	"slices"
	"strings"

	"tripwire/api"
	"tripwire/ast"
	"tripwire/check"
	"tripwire/fault"
	"tripwire/schema"
)

// Compile is the plan of a statement.
func Compile(c Catalog, s ast.Stmt, own string) (Plan, api.Errno) {
	return caught(func() Plan { return c.plan(s, own) })
}

func (c Catalog) plan(s ast.Stmt, own string) Plan {
	refuse(!ast.Right(s), api.ErrArg)
	var p Plan
	switch s.Kind {
	case ast.Select:
		p, _ = c.rows(s, own)
	case ast.Insert:
		p = c.insertion(s, own)
	case ast.Update:
		p = c.update(s)
	case ast.Delete:
		p = c.deletion(s)
	default:
		fault.Check(api.ErrArg)
	}
	p.Kind, p.Table = s.Kind, strings.Clone(s.Table)
	return p
}

// rows is what is told or inserted, and the types of its Items.
func (c Catalog) rows(s ast.Stmt, own string) (Plan, []int) {
	if len(s.Values) > 0 {
		items, types := typed(nil, s.Values)
		return Plan{Items: items}, types
	}
	vars := sure(check.Vars(c.Tables, s.From, own))
	items, types := columns(vars)
	if len(s.Items) > 0 {
		items, types = typed(vars, s.Items)
	}
	return Plan{Vars: vars, Items: items, Cond: sure(check.Cond(vars, s.Where))}, types
}

// typed is the nodes of expressions, and their types.
func typed(vars []check.Var, l []ast.Expr) ([]check.Node, []int) {
	var items []check.Node
	var types []int
	for _, e := range l {
		n, kind, x := check.Expr(vars, e)
		fault.Check(x)
		items, types = append(items, n), append(types, kind)
	}
	return items, types
}

// columns is all columns of all variables, and their types.
func columns(vars []check.Var) ([]check.Node, []int) {
	var items []check.Node
	var types []int
	for v := range vars {
		for i, col := range vars[v].Cols {
			items, types = append(items, check.Node{Op: "column", Var: v, Col: i}), append(types, col.Type)
		}
	}
	return items, types
}

func (c Catalog) insertion(s ast.Stmt, own string) Plan {
	t := sure(check.Find(c.Tables, s.Table))
	p, types := c.rows(s, own)
	refuse(len(types) != len(t.Cols), api.ErrArg)
	for i, kind := range types {
		refuse(!agree(kind, t.Cols[i].Type), api.ErrType)
	}
	return p
}

func agree(a, b int) bool { return a == b || a == api.Null || b == api.Null }

// rowsOf is the one variable of an Update and a Delete.
func (c Catalog) rowsOf(table string) []check.Var {
	return sure(check.Vars(c.Tables, []ast.Source{{Table: table}}, ""))
}

func (c Catalog) update(s ast.Stmt) Plan {
	p := Plan{Vars: c.rowsOf(s.Table)}
	cols := p.Vars[0].Cols
	for _, x := range s.Sets {
		at := schema.Find(cols, x.Col)
		refuse(at < 0, api.ErrName)
		refuse(slices.Contains(p.Sets, at), api.ErrThere)
		n, kind, e := check.Expr(p.Vars, x.E)
		fault.Check(e)
		refuse(!agree(kind, cols[at].Type), api.ErrType)
		p.Sets, p.Items = append(p.Sets, at), append(p.Items, n)
	}
	p.Cond = sure(check.Cond(p.Vars, s.Where))
	return p
}

func (c Catalog) deletion(s ast.Stmt) Plan {
	vars := c.rowsOf(s.Table)
	return Plan{Vars: vars, Cond: sure(check.Cond(vars, s.Where))}
}

// When is the plan of what a rule asks.
func When(c Catalog, s ast.Stmt) (Plan, api.Errno) {
	return caught(func() Plan { return c.asked(s) })
}

func (c Catalog) asked(s ast.Stmt) Plan {
	refuse(s.Kind != ast.Rule || !ast.Right(s), api.ErrArg)
	vars := sure(check.Vars(c.Tables, s.From, s.Table))
	return Plan{Kind: ast.Rule, Table: strings.Clone(s.Table), Vars: vars, Cond: sure(check.Cond(vars, s.Where))}
}
