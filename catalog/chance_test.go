package catalog_test

import (
	"math/rand/v2"
	"slices"
	"strconv"
	"testing"

	"tripwire/api"
	"tripwire/ast"
	"tripwire/catalog"
	"tripwire/check"
)

func pick[T any](r *rand.Rand, l ...T) T { return l[r.IntN(len(l))] }

func many[T any](n int, f func(int) T) []T {
	var l []T
	for i := range n {
		l = append(l, f(i))
	}
	return l
}

// maker makes right statements that mostly have a meaning by a catalog; one part in wrong has none.
type maker struct {
	*rand.Rand
	c     catalog.Catalog
	wrong int
}

func (m maker) errs() bool { return m.IntN(m.wrong) == 0 }

// name is one of ten.
func (m maker) name(first string) string { return first + strconv.Itoa(m.IntN(10)) }

// there is a name of those that there are.
func (m maker) there(l []string, first string) string {
	if len(l) == 0 || m.errs() {
		return m.name(first)
	}
	return pick(m.Rand, l...)
}

// fresh is a name that isn't there yet.
func (m maker) fresh(l []string, first string) string {
	for name := m.name(first); ; name = m.name(first) {
		if !slices.Contains(l, name) || m.errs() {
			return name
		}
	}
}

func (m maker) table() string {
	tables, _, _ := namesOf(m.c)
	return m.there(tables, "t")
}

// col is a column of a table; of none, if there is no such table.
func (m maker) cols(table string) []api.Column {
	t, _ := check.Find(m.c.Tables, table)
	return t.Cols
}

func (m maker) col(table string) string {
	var l []string
	for _, c := range m.cols(table) {
		l = append(l, c.Name)
	}
	if m.errs() {
		l = nil
	}
	return m.there(l, "c")
}

func (m maker) value(kind int) ast.Expr {
	v := api.Value{Kind: kind}
	switch kind {
	case api.Bool:
		v.N = m.IntN(2)
	case api.Int:
		v.N = pick(m.Rand, 0, 1, 7, 1<<62)
	case api.Text:
		v.S = pick(m.Rand, "", "a", "it's", "column")
	}
	return ast.Expr{Op: "value", V: v}
}

func (m maker) column(vars []check.Var, kind int) ast.Expr {
	var l []ast.Expr
	for _, v := range vars {
		for _, c := range v.Cols {
			if c.Type == kind {
				l = append(l, ast.Expr{Op: "column", Var: v.Name, Col: c.Name})
				if len(vars) == 1 {
					l = append(l, ast.Expr{Op: "column", Col: c.Name})
				}
			}
		}
	}
	switch {
	case m.errs():
		return ast.Expr{Op: "column", Var: pick(m.Rand, "", "x", "t0", "t1", "new"), Col: m.name("c")}
	case len(l) == 0:
		return m.value(kind)
	}
	return pick(m.Rand, l...)
}

// expr is mostly of a type.
func (m maker) expr(vars []check.Var, kind, depth int) ast.Expr {
	switch {
	case m.errs():
		kind = m.IntN(4)
	case m.IntN(12) == 0:
		kind = api.Null
	}
	if depth == 1 || m.IntN(3) == 0 {
		if kind == api.Null || m.IntN(3) == 0 {
			return m.value(kind)
		}
		return m.column(vars, kind)
	}
	kid := func(kind int) ast.Expr { return m.expr(vars, kind, depth-1) }
	pair := func(op string, kind int) ast.Expr {
		return ast.Expr{Op: op, Kids: []ast.Expr{kid(kind), kid(kind)}}
	}
	switch {
	case kind == api.Bool && m.IntN(3) == 0:
		return ast.Expr{Op: pick(m.Rand, "not", "null"), Kids: []ast.Expr{kid(kind)}}
	case kind == api.Bool && m.IntN(2) == 0:
		return pair(pick(m.Rand, "=", "<>", "<", "<=", ">", ">="), m.IntN(4))
	case kind == api.Bool:
		return pair(pick(m.Rand, "and", "and", "or"), kind)
	case kind == api.Int && m.IntN(3) == 0:
		return ast.Expr{Op: "neg", Kids: []ast.Expr{kid(kind)}}
	case kind == api.Int:
		return pair(pick(m.Rand, "+", "-", "*"), kind)
	}
	return pair("+", kind)
}

func (m maker) where(vars []check.Var) []ast.Expr {
	return many(m.IntN(2), func(int) ast.Expr { return m.expr(vars, pick(m.Rand, 1, 1, 1, 1, 0), 1+m.IntN(4)) })
}

// from is sources; of a transition, where there is a rule's table.
func (m maker) from(n int, own string) []ast.Source {
	return many(n, func(i int) ast.Source {
		name := "xyz"[i : i+1]
		if m.IntN(3) == 0 {
			name = pick(m.Rand, "", "", "x", "t1")
		}
		if own != "" && m.IntN(2) == 0 || m.errs() {
			return ast.Source{Kind: 1 + m.IntN(4), Var: name}
		}
		return ast.Source{Table: m.table(), Var: name}
	})
}

// kinds are the types of columns, mostly so many.
func (m maker) kinds(table string) []int {
	var l []int
	for _, c := range m.cols(table) {
		l = append(l, c.Type)
	}
	switch {
	case len(l) == 0 || m.errs():
		return append(l[:len(l):len(l)], 2)
	case m.errs() && len(l) > 1:
		return l[1:]
	}
	return l
}

func (m maker) insertion(own string) ast.Stmt {
	s := ast.Stmt{Kind: ast.Insert, Table: m.table()}
	if m.IntN(2) == 0 {
		for _, kind := range m.kinds(s.Table) {
			s.Values = append(s.Values, m.expr(nil, kind, 1+m.IntN(3)))
		}
		s.Values = s.Values[:min(6, len(s.Values))]
		return s
	}
	if s.From = m.from(1+m.IntN(3), own); m.IntN(3) == 0 { // now and then all columns of it itself
		s.From = []ast.Source{{Table: s.Table, Var: s.From[0].Var}}
	}
	vars, _ := check.Vars(m.c.Tables, s.From, own)
	if len(s.From) > 1 || m.IntN(2) == 0 {
		for _, kind := range m.kinds(s.Table) {
			s.Items = append(s.Items, m.expr(vars, kind, 1+m.IntN(3)))
		}
	}
	s.Where = m.where(vars)
	return s
}

func (m maker) change(kind int) ast.Stmt {
	s := ast.Stmt{Kind: kind, Table: m.table()}
	vars, _ := check.Vars(m.c.Tables, []ast.Source{{Table: s.Table}}, "")
	s.Where = m.where(vars)
	if kind == ast.Delete {
		return s
	}
	cols := m.cols(s.Table)
	m.Shuffle(len(cols), func(i, j int) { cols[i], cols[j] = cols[j], cols[i] })
	for _, c := range cols[:min(len(cols), 1+m.IntN(3))] {
		s.Sets = append(s.Sets, ast.Set{Col: c.Name, E: m.expr(vars, c.Type, 1+m.IntN(3))})
	}
	if len(s.Sets) == 0 || m.errs() {
		s.Sets = append(s.Sets, ast.Set{Col: m.col(s.Table), E: m.expr(vars, m.IntN(4), 2)})
	}
	return s
}

func (m maker) act(own string) ast.Stmt {
	switch m.IntN(4) {
	case 0:
		return m.change(ast.Update)
	case 1:
		return m.change(ast.Delete)
	}
	return m.insertion(own)
}

func (m maker) selection(own string) ast.Stmt {
	s := ast.Stmt{Kind: ast.Select, From: m.from(1+m.IntN(3), own)}
	vars, _ := check.Vars(m.c.Tables, s.From, own)
	s.Items = many(pick(m.Rand, 0, 1, 2, 5), func(int) ast.Expr { return m.expr(vars, m.IntN(4), 1+m.IntN(3)) })
	s.Where = m.where(vars)
	return s
}

func (m maker) rule() ast.Stmt {
	_, _, rules := namesOf(m.c)
	s := ast.Stmt{Kind: ast.Rule, Name: m.fresh(rules, "r"), Priority: pick(m.Rand, 0, 1, 1, 2, 999), Event: 1 + m.IntN(3), Table: m.table(), Deferred: m.IntN(2) == 0}
	if s.From = m.from(m.IntN(4), s.Table); len(s.From) > 0 {
		vars, _ := check.Vars(m.c.Tables, s.From, s.Table)
		s.Where = m.where(vars)
	}
	if s.Rolls = m.IntN(3) == 0; !s.Rolls {
		s.Acts = many(1+m.IntN(4), func(int) ast.Stmt { return m.act(s.Table) })
	}
	return s
}

func (m maker) newTable() ast.Stmt {
	tables, _, _ := namesOf(m.c)
	return ast.Stmt{Kind: ast.Table, Name: m.fresh(tables, "t"), Cols: many(1+m.IntN(6), func(i int) api.Column {
		return api.Column{Name: "c" + strconv.Itoa((i*3+len(tables))%10), Type: 1 + m.IntN(3), NotNull: m.IntN(2) == 0, Unique: m.IntN(2) == 0}
	})}
}

// stmt is a statement of those that Apply takes, mostly.
func (m maker) stmt() ast.Stmt {
	tables, indexes, rules := namesOf(m.c)
	switch m.IntN(24) {
	case 0, 1, 2, 3:
		return m.newTable()
	case 4, 5, 6, 7:
		table := m.table()
		return ast.Stmt{Kind: ast.Index, Name: m.fresh(indexes, "i"), Table: table, Col: m.col(table)}
	case 8:
		return ast.Stmt{Kind: ast.DropTable, Name: m.there(tables, "t")}
	case 9:
		return ast.Stmt{Kind: ast.DropIndex, Name: m.there(indexes, "i")}
	case 10:
		return ast.Stmt{Kind: ast.DropRule, Name: m.there(rules, "r")}
	case 11:
		return pick(m.Rand, ast.Stmt{Kind: 1 + m.IntN(3)}, ast.Stmt{Kind: 4 + m.IntN(2), Name: "s"}, m.act("t0"), m.selection(""))
	}
	return m.rule()
}

// catalogByChance is one that so many statements by chance make.
func catalogByChance(r *rand.Rand, n int) catalog.Catalog {
	m := maker{Rand: r, wrong: 200}
	for range n {
		if c, e := catalog.Apply(m.c, m.stmt()); e == api.OK {
			m.c = c
		}
	}
	return m.c
}

func TestStatementsByChance(t *testing.T) {
	count, kinds := map[api.Errno]int{}, map[int]int{}
	full := 0
	for seed := range uint64(400) {
		r := rand.New(rand.NewPCG(192, seed))
		m := maker{Rand: r, wrong: pick(r, 30, 100, 400)}
		for range 60 {
			s := m.stmt()
			if !ast.Right(s) {
				t.Fatal(short(s), "isn't right")
			}
			if d := differs(m.c, s, pick(r, "", "t1", "t2")); d != "" {
				t.Fatal(d)
			}
			c, e := catalog.Apply(m.c, s)
			if count[e]++; e != api.OK {
				continue
			}
			kinds[s.Kind]++
			if m.c = c; unsound(c) != "" {
				t.Fatalf("%s: %s\n%s", short(s), unsound(c), tell(c))
			}
			if len(c.Tables) == 8 || len(c.Indexes) == 8 || len(c.Rules) == 8 {
				full++
			}
		}
	}
	for _, e := range []api.Errno{api.OK, api.ErrName, api.ErrThere, api.ErrType, api.ErrLong, api.ErrArg} {
		if count[e] < 300 {
			t.Errorf("%v: too few of %d to tell anything", count, e)
		}
	}
	for kind := ast.Table; kind <= ast.DropRule; kind++ {
		if kinds[kind] < 100 {
			t.Errorf("%v: too few of the Kind %d to tell anything", kinds, kind)
		}
	}
	if full < 1000 {
		t.Error(full, "too few to tell anything")
	}
}

// What is compiled is mostly by a catalog of several tables; so are rules that aren't made.
func TestPlansByChance(t *testing.T) {
	count, kinds := map[api.Errno]int{}, map[int]int{}
	for seed := range uint64(300) {
		r := rand.New(rand.NewPCG(193, seed))
		m := maker{Rand: r, c: catalogByChance(r, 30), wrong: pick(r, 30, 100, 400)}
		for range 60 {
			own := pick(r, "", m.table())
			s := pick(r, m.act(own), m.act(own), m.selection(own), m.rule())
			if d := differs(m.c, s, own); d != "" {
				t.Fatal(d)
			}
			_, e := catalog.Compile(m.c, s, own)
			if s.Kind == ast.Rule {
				_, e = catalog.When(m.c, s)
			}
			if count[e]++; e == api.OK {
				kinds[s.Kind]++
			}
		}
	}
	for _, e := range []api.Errno{api.OK, api.ErrName, api.ErrThere, api.ErrType, api.ErrArg} {
		if count[e] < 200 {
			t.Errorf("%v: too few of %d to tell anything", count, e)
		}
	}
	for _, kind := range []int{ast.Rule, ast.Insert, ast.Update, ast.Delete, ast.Select} {
		if kinds[kind] < 500 {
			t.Errorf("%v: too few of the Kind %d to tell anything", kinds, kind)
		}
	}
}

// Whatever its statements are, a catalog is one that they make again: its tables, indexes and rules, in their order.
func TestCatalogsMadeAgain(t *testing.T) {
	some := 0
	for seed := range uint64(200) {
		r := rand.New(rand.NewPCG(194, seed))
		c := catalogByChance(r, 40)
		var d catalog.Catalog
		for _, x := range c.Tables {
			d, _ = catalog.Apply(d, ast.Stmt{Kind: ast.Table, Name: x.Name, Cols: x.Cols})
		}
		for _, x := range c.Indexes {
			d, _ = catalog.Apply(d, ast.Stmt{Kind: ast.Index, Name: x.Name, Table: x.Table, Col: x.Col})
		}
		for _, i := range r.Perm(len(c.Rules)) {
			d, _ = catalog.Apply(d, c.Rules[i])
		}
		if all(c) != all(d) {
			t.Fatalf("%s\nnot\n%s", tell(d), tell(c))
		}
		some += len(c.Rules)
	}
	if some < 200 {
		t.Error(some, "too few to tell anything")
	}
}
