package catalog_test

import (
	"fmt"
	"reflect"
	"slices"

	"tripwire/api"
	"tripwire/ast"
	"tripwire/catalog"
	"tripwire/check"
)

// Here the chapter's words are told anew: what is asked stands one behind the other, and the first error stays.

// telling is what was asked so far.
type telling struct {
	e       api.Errno
	c       catalog.Catalog
	p       catalog.Plan
	types   []int // those of the plan's Items
	columns []api.Column
}

// ask asks, if all that was asked ahead had no error.
func (x *telling) ask(f func() api.Errno) {
	if x.e == api.OK {
		x.e = f()
	}
}

// unless asks for something that must be so.
func (x *telling) unless(e api.Errno, so func() bool) {
	x.ask(func() api.Errno {
		if so() {
			return api.OK
		}
		return e
	})
}

func (x *telling) then(f func()) {
	x.ask(func() api.Errno { f(); return api.OK })
}

// tables are those of a name, of which the first one counts.
func (x *telling) tables(name string) []check.Table {
	var l []check.Table
	for _, t := range x.c.Tables {
		if t.Name == name {
			l = append(l, t)
		}
	}
	return l
}

// among is the numbers of the columns of a name.
func among(cols []api.Column, name string) []int {
	var l []int
	for i, c := range cols {
		if c.Name == name {
			l = append(l, i)
		}
	}
	return l
}

// target asks for the table that a statement changes.
func (x *telling) target(name string) {
	x.unless(api.ErrName, func() bool { return len(x.tables(name)) > 0 })
	x.then(func() { x.columns = x.tables(name)[0].Cols })
}

// from asks for variables, source by source.
func (x *telling) from(l []ast.Source, own string) {
	if x.e != api.OK { // what isn't right has no such names
		return
	}
	for i, s := range l {
		of, name := s.Table, s.Table
		if s.Kind > 0 {
			of, name = own, []string{"", "inserted", "deleted", "old", "new"}[s.Kind]
		}
		if s.Var != "" {
			name = s.Var
		}
		x.unless(api.ErrName, func() bool { return of != "" && len(x.tables(of)) > 0 })
		x.unless(api.ErrThere, func() bool {
			return !slices.ContainsFunc(x.p.Vars[:i], func(v check.Var) bool { return v.Name == name })
		})
		x.then(func() {
			x.p.Vars = append(x.p.Vars, check.Var{Name: name, Source: s, Cols: x.tables(of)[0].Cols})
		})
	}
}

// items asks for expressions, over the variables that there are.
func (x *telling) items(l []ast.Expr) {
	for _, e := range l {
		x.ask(func() api.Errno {
			n, kind, err := check.Expr(x.p.Vars, e)
			x.p.Items, x.types = append(x.p.Items, n), append(x.types, kind)
			return err
		})
	}
}

// selected asks for all that a Select has, also within an Insert.
func (x *telling) selected(s ast.Stmt, own string) {
	x.from(s.From, own)
	x.items(s.Items)
	x.then(func() {
		for v := 0; v < len(x.p.Vars) && len(s.Items) == 0; v++ {
			for i, c := range x.p.Vars[v].Cols {
				x.p.Items, x.types = append(x.p.Items, check.Node{Op: "column", Var: v, Col: i}), append(x.types, c.Type)
			}
		}
	})
	x.where(s.Where)
}

func (x *telling) where(l []ast.Expr) {
	x.ask(func() (e api.Errno) {
		x.p.Cond, e = check.Cond(x.p.Vars, l)
		return e
	})
}

// fits asks for a type, and the column's, one of which may be NULL's.
func (x *telling) fits(kind int, column func() api.Column) {
	x.unless(api.ErrType, func() bool { return kind*column().Type == 0 || kind == column().Type })
}

func (x *telling) inserted(s ast.Stmt, own string) {
	x.target(s.Table)
	if len(s.Values) > 0 {
		x.items(s.Values)
	} else {
		x.selected(s, own)
	}
	x.unless(api.ErrArg, func() bool { return len(x.types) == len(x.columns) })
	for i, kind := range x.types {
		x.fits(kind, func() api.Column { return x.columns[i] })
	}
}

func (x *telling) updated(s ast.Stmt) {
	x.target(s.Table)
	x.from([]ast.Source{{Table: s.Table}}, "")
	for i, set := range s.Sets {
		x.unless(api.ErrName, func() bool { return len(among(x.columns, set.Col)) > 0 })
		x.unless(api.ErrThere, func() bool {
			return !slices.ContainsFunc(s.Sets[:i], func(y ast.Set) bool { return y.Col == set.Col })
		})
		x.items([]ast.Expr{set.E})
		x.ask(func() api.Errno {
			x.p.Sets = append(x.p.Sets, among(x.columns, set.Col)[0])
			x.fits(x.types[i], func() api.Column { return x.columns[x.p.Sets[i]] })
			return x.e
		})
	}
	x.where(s.Where)
}

func (x *telling) plan() (catalog.Plan, api.Errno) {
	if x.e != api.OK {
		return catalog.Plan{}, x.e
	}
	return x.p, api.OK
}

func toldCompile(c catalog.Catalog, s ast.Stmt, own string) (catalog.Plan, api.Errno) {
	x := telling{c: c, p: catalog.Plan{Kind: s.Kind, Table: s.Table}}
	x.unless(api.ErrArg, func() bool { return s.Kind >= ast.Insert && ast.Right(s) })
	switch s.Kind {
	case ast.Insert:
		x.inserted(s, own)
	case ast.Update:
		x.updated(s)
	case ast.Delete:
		x.target(s.Table)
		x.from([]ast.Source{{Table: s.Table}}, "")
		x.where(s.Where)
	case ast.Select:
		x.selected(s, own)
	}
	return x.plan()
}

func toldWhen(c catalog.Catalog, s ast.Stmt) (catalog.Plan, api.Errno) {
	x := telling{c: c, p: catalog.Plan{Kind: s.Kind, Table: s.Table}}
	x.unless(api.ErrArg, func() bool { return s.Kind == ast.Rule && ast.Right(s) })
	x.from(s.From, s.Table)
	x.where(s.Where)
	return x.plan()
}

// Of a catalog there are three plain lists of names, in which it is looked.

func namesOf(c catalog.Catalog) (tables, indexes, rules []string) {
	for _, t := range c.Tables {
		tables = append(tables, t.Name)
	}
	for _, i := range c.Indexes {
		indexes = append(indexes, i.Name)
	}
	for _, r := range c.Rules {
		rules = append(rules, r.Name)
	}
	return tables, indexes, rules
}

// tablesNamed is all tables that a rule names.
func tablesNamed(r ast.Stmt) []string {
	l := []string{r.Table}
	for _, s := range append([]ast.Stmt{r}, r.Acts...) {
		l = append(l, s.Table)
		for _, x := range s.From {
			l = append(l, x.Table)
		}
	}
	return l
}

// ranked takes the rule that comes first out of a list, so often as there are rules.
func ranked(l []ast.Stmt) []ast.Stmt {
	var to []ast.Stmt
	for l = slices.Clone(l); len(l) > 0; {
		at := 0
		for i, r := range l {
			if r.Priority > l[at].Priority || r.Priority == l[at].Priority && r.Name < l[at].Name {
				at = i
			}
		}
		to, l = append(to, l[at]), append(l[:at], l[at+1:]...)
	}
	return to
}

func toldApply(c catalog.Catalog, s ast.Stmt) (catalog.Catalog, api.Errno) {
	x := telling{c: c}
	tables, indexes, rules := namesOf(c)
	takes := []int{ast.Table, ast.Index, ast.Rule, ast.DropTable, ast.DropIndex, ast.DropRule}
	x.unless(api.ErrArg, func() bool { return ast.Right(s) && slices.Contains(takes, s.Kind) })
	switch s.Kind {
	case ast.Table:
		x.unless(api.ErrThere, func() bool { return !slices.Contains(tables, s.Name) })
		x.unless(api.ErrLong, func() bool { return len(tables) < 8 })
		x.then(func() { c.Tables = slices.Concat(c.Tables, []check.Table{{Name: s.Name, Cols: s.Cols}}) })
	case ast.Index:
		x.unless(api.ErrThere, func() bool { return !slices.Contains(indexes, s.Name) })
		x.target(s.Table)
		x.unless(api.ErrName, func() bool { return len(among(x.columns, s.Col)) > 0 })
		x.unless(api.ErrLong, func() bool { return len(indexes) < 8 })
		x.then(func() {
			c.Indexes = slices.Concat(c.Indexes, []catalog.Index{{Name: s.Name, Table: s.Table, Col: s.Col}})
		})
	case ast.Rule:
		x.unless(api.ErrThere, func() bool { return !slices.Contains(rules, s.Name) })
		x.target(s.Table)
		x.unless(api.ErrLong, func() bool { return len(rules) < 8 })
		x.ask(func() api.Errno { _, e := toldWhen(c, s); return e })
		for _, act := range s.Acts {
			x.ask(func() api.Errno { _, e := toldCompile(c, act, s.Table); return e })
		}
		x.then(func() { c.Rules = ranked(slices.Concat(c.Rules, []ast.Stmt{s})) })
	default:
		toldDrop(&x, &c, s)
	}
	if x.e != api.OK {
		return catalog.Catalog{}, x.e
	}
	return c, api.OK
}

func toldDrop(x *telling, c *catalog.Catalog, s ast.Stmt) {
	tables, indexes, rules := namesOf(*c)
	names := map[int][]string{ast.DropTable: tables, ast.DropIndex: indexes, ast.DropRule: rules}[s.Kind]
	x.unless(api.ErrName, func() bool { return slices.Contains(names, s.Name) })
	x.unless(api.ErrThere, func() bool {
		return s.Kind != ast.DropTable || !slices.ContainsFunc(c.Rules, func(r ast.Stmt) bool { return slices.Contains(tablesNamed(r), s.Name) })
	})
	var left catalog.Catalog
	for _, t := range c.Tables {
		if s.Kind != ast.DropTable || t.Name != s.Name {
			left.Tables = append(left.Tables, t)
		}
	}
	for _, i := range c.Indexes {
		if !(s.Kind == ast.DropTable && i.Table == s.Name || s.Kind == ast.DropIndex && i.Name == s.Name) {
			left.Indexes = append(left.Indexes, i)
		}
	}
	for _, r := range c.Rules {
		if s.Kind != ast.DropRule || r.Name != s.Name {
			left.Rules = append(left.Rules, r)
		}
	}
	x.then(func() { *c = left })
}

// all is anything told with all its fields; an empty list and no list are one.
func all(x any) string { return fmt.Sprintf("%+v", x) }

func same(a, b any) bool { return reflect.DeepEqual(a, b) || all(a) == all(b) }

// differs tells how what the functions answer isn't as the chapter says; "", if it is.
func differs(c catalog.Catalog, s ast.Stmt, own string) string {
	d, e := catalog.Apply(c, s)
	want, told := toldApply(c, s)
	if e != told || !same(d, want) {
		return fmt.Sprintf("Apply of %s: %d, %s\nnot %d, %s", short(s), e, short(d), told, short(want))
	}
	p, e := catalog.Compile(c, s, own)
	wanted, told := toldCompile(c, s, own)
	if e != told || !same(p, wanted) {
		return fmt.Sprintf("Compile of %s as an act of %q: %d, %s\nnot %d, %s", short(s), own, e, short(p), told, short(wanted))
	}
	p, e = catalog.When(c, s)
	wanted, told = toldWhen(c, s)
	if e != told || !same(p, wanted) {
		return fmt.Sprintf("When of %s: %d, %s\nnot %d, %s", short(s), e, short(p), told, short(wanted))
	}
	return ""
}
