package check_test

import (
	"math/rand/v2"
	"reflect"
	"slices"
	"testing"

	"tripwire/api"
	"tripwire/ast"
	"tripwire/check"
)

func pick[T any](r *rand.Rand, l ...T) T { return l[r.IntN(len(l))] }

func nameByChance(r *rand.Rand) string { return pick(r, "a", "b", "c", "d", "e", "f", "g") }

func colsByChance(r *rand.Rand) []api.Column {
	var l []api.Column
	for range r.IntN(7) {
		if name := nameByChance(r); r.IntN(20) == 0 || !slices.ContainsFunc(l, func(c api.Column) bool { return c.Name == name }) {
			l = append(l, api.Column{Name: name, Type: 1 + r.IntN(3), NotNull: r.IntN(2) == 0, Unique: r.IntN(2) == 0})
		}
	}
	return l
}

// varsByChance has two of one name now and then.
func varsByChance(r *rand.Rand) []check.Var {
	var l []check.Var
	for range pick(r, 0, 1, 1, 2, 2, 3, 3, 5) {
		name := pick(r, "x", "y", "z", "a", "inserted", "new", "")
		if r.IntN(5) > 0 && slices.ContainsFunc(l, func(v check.Var) bool { return v.Name == name }) {
			continue
		}
		l = append(l, check.Var{Name: name, Source: ast.Source{Kind: r.IntN(5), Var: name}, Cols: colsByChance(r)})
	}
	return l
}

// maker makes expressions over variables that are mostly of the types that are asked for; one part in wrong isn't.
type maker struct {
	*rand.Rand
	vars  []check.Var
	wrong int
}

func (m maker) errs() bool { return m.IntN(m.wrong) == 0 }

func (m maker) value(kind int) ast.Expr {
	switch kind {
	case api.Bool:
		return val(api.Value{Kind: kind, N: m.IntN(2)})
	case api.Int:
		return num(pick(m.Rand, 0, 1, 7, 1<<62))
	case api.Text:
		return val(api.Value{Kind: kind, S: pick(m.Rand, "", "a", "it's", "column")})
	}
	return val(api.Value{})
}

// has tells how many variables have a column of a name.
func (m maker) has(name string) int {
	count := 0
	for _, v := range m.vars {
		if slices.ContainsFunc(v.Cols, func(c api.Column) bool { return c.Name == name }) {
			count++
		}
	}
	return count
}

func (m maker) column(kind int) ast.Expr {
	var all []ast.Expr
	for _, v := range m.vars {
		for _, c := range v.Cols {
			switch {
			case c.Type != kind:
			case v.Name != "" && (m.has(c.Name) > 1 || m.IntN(2) == 0):
				all = append(all, dot(v.Name, c.Name))
			default:
				all = append(all, col(c.Name))
			}
		}
	}
	if len(all) == 0 || m.errs() {
		return dot(pick(m.Rand, "", "x", "y", "a", "old"), nameByChance(m.Rand))
	}
	return pick(m.Rand, all...)
}

// of is at most depth expressions within one another.
func (m maker) of(kind, depth int) ast.Expr {
	switch {
	case m.errs():
		kind = m.IntN(4)
	case m.IntN(12) == 0:
		kind = 0
	}
	if depth == 1 || m.IntN(5) == 0 {
		if kind == 0 || m.IntN(2) == 0 {
			return m.value(kind)
		}
		return m.column(kind)
	}
	return m.inner(kind, depth-1)
}

func (m maker) inner(kind, depth int) ast.Expr {
	other := min(depth, 1+m.IntN(3)) // deep on one side alone, so that it doesn't grow too great
	pair := func(name string, kind int) ast.Expr {
		if m.IntN(2) == 0 {
			return op(name, m.of(kind, depth), m.of(kind, other))
		}
		return op(name, m.of(kind, other), m.of(kind, depth))
	}
	switch kind {
	case api.Bool:
		switch m.IntN(5) {
		case 0:
			return op("not", m.of(1, depth))
		case 1:
			return op("null", m.of(m.IntN(4), depth))
		case 2:
			return pair(pick(m.Rand, "=", "<>", "<", "<=", ">", ">="), m.IntN(4))
		}
		return pair(pick(m.Rand, "and", "and", "or"), 1)
	case api.Int:
		if m.IntN(4) == 0 {
			return op("neg", m.of(2, depth))
		}
		return pair(pick(m.Rand, "+", "-", "*"), 2)
	}
	return pair("+", kind)
}

// typedByChance is the same for the same number, and then shares no memory.
func typedByChance(seed uint64) ([]check.Var, ast.Expr) {
	r := rand.New(rand.NewPCG(15, seed))
	m := maker{r, varsByChance(r), pick(r, 15, 60, 1000)}
	return m.vars, m.of(pick(r, 0, 1, 1, 1, 1, 2, 3), pick(r, 1, 2, 3, 4, 6, 20))
}

func TestExpressionsByChance(t *testing.T) {
	count := map[api.Errno]int{}
	for seed := range uint64(30000) {
		l, e := typedByChance(seed)
		wantTold(t, l, e)
		wantToldCond(t, l, e)
		_, _, err := check.Expr(l, e)
		count[err]++
	}
	if count[api.OK] < 10000 || count[api.ErrName] < 2000 || count[api.ErrType] < 1000 || count[api.ErrArg] != 0 {
		t.Errorf("%v: too few of some to tell anything", count)
	}
}

// Some parts of an expression become others, so that it is wrong in several places, or isn't right.
func TestAlteredExpressions(t *testing.T) {
	count := map[api.Errno]int{}
	for seed := range uint64(30000) {
		l, e := typedByChance(seed)
		r := rand.New(rand.NewPCG(16, seed))
		for range 1 + r.IntN(3) {
			alter(r, &e)
		}
		wantTold(t, l, e)
		wantToldCond(t, l, e)
		_, _, err := check.Expr(l, e)
		count[err]++
	}
	for _, err := range []api.Errno{api.OK, api.ErrName, api.ErrType, api.ErrArg} {
		if count[err] < 1500 {
			t.Errorf("%v: too few of %d to tell anything", count, err)
		}
	}
}

// alter changes one part that is picked on the way down.
func alter(r *rand.Rand, e *ast.Expr) {
	for len(e.Kids) > 0 && r.IntN(4) > 0 {
		e = &e.Kids[r.IntN(len(e.Kids))]
	}
	switch r.IntN(8) {
	case 0:
		*e = val(pick(r, api.Value{}, api.Value{Kind: 1, N: 1}, api.Value{Kind: 2, N: 3}, api.Value{Kind: 3, S: "s"}))
	case 1:
		*e = dot(pick(r, "", "x", "y", "no"), nameByChance(r))
	case 2, 3, 4:
		switch len(e.Kids) {
		case 1:
			e.Op = pick(r, ones()...)
		case 2:
			e.Op = pick(r, twos()...)
		default:
			*e = op(pick(r, ones()...), *e)
		}
	case 5:
		slices.Reverse(e.Kids)
	case 6:
		*e = op(pick(r, twos()...), *e, *e)
	default:
		e.Op, e.Col = pick(r, e.Op, "value", "column", "no", "neg"), pick(r, e.Col, "a", "A")
	}
}

// All small expressions: ops over all leaves, and ops over those over a few.
func TestAllSmallExpressions(t *testing.T) {
	l := someVars()
	texts := []string{"NULL", "TRUE", "1", "'s'", "a", "b", "c", "x.a", "x.c", "y.a", "u.c", "inserted.e", "zz"}
	var few, leaves []ast.Expr
	for _, text := range texts {
		leaves = append(leaves, expr(t, text))
	}
	for _, text := range []string{"NULL", "c", "x.a", "b", "zz"} {
		few = append(few, expr(t, text))
	}
	around := func(all []ast.Expr, names []string, more []ast.Expr) []ast.Expr {
		var out []ast.Expr
		for _, a := range all {
			for _, name := range ones() {
				out = append(out, op(name, a))
			}
			for _, b := range more {
				for _, name := range names {
					out = append(out, op(name, a, b), op(name, b, a))
				}
			}
		}
		return out
	}
	for _, e := range append(slices.Concat(leaves, around(leaves, twos(), leaves)), around(around(few, twos(), few), twos(), few)...) {
		wantTold(t, l, e)
		wantToldCond(t, l, e)
	}
	some := around(few, []string{"+", "=", "and"}, few)
	for _, e := range around(some, []string{"+", "-", "<", "and"}, some) {
		wantTold(t, l, e)
	}
}

// within holds a node against its expression: each column of it is there, and has the name that the expression asks for.
func within(l []check.Var, e ast.Expr, n check.Node) bool {
	if n.Op != e.Op || n.V != e.V || len(n.Kids) != len(e.Kids) || n.Op != "column" && (n.Var != 0 || n.Col != 0) {
		return false
	}
	for i, kid := range e.Kids {
		if !within(l, kid, n.Kids[i]) {
			return false
		}
	}
	if n.Op != "column" {
		return true
	}
	return 0 <= n.Var && n.Var < len(l) && 0 <= n.Col && n.Col < len(l[n.Var].Cols) &&
		l[n.Var].Cols[n.Col].Name == e.Col && (e.Var == "" || e.Var == l[n.Var].Name)
}

// conjuncts are what stands between an expression's outermost ands.
func conjuncts(e ast.Expr) []ast.Expr {
	if e.Op != "and" {
		return []ast.Expr{e}
	}
	return append(conjuncts(e.Kids[0]), conjuncts(e.Kids[1])...)
}

func TestColumnsAreThere(t *testing.T) {
	exprs, conds := 0, 0
	for seed := uint64(50000); seed < 80000; seed++ {
		l, e := typedByChance(seed)
		if n, _, err := check.Expr(l, e); err == api.OK {
			exprs++
			if !within(l, e, n) {
				t.Errorf("%s over %s is %s", ast.ShowExpr(e), varsText(l), node(n))
			}
		}
		all, err := check.Cond(l, []ast.Expr{e})
		if err != api.OK {
			continue
		}
		conds++
		parts := conjuncts(e)
		if len(all) != len(parts) {
			t.Fatalf("%s has %d parts, not %d", ast.ShowExpr(e), len(all), len(parts))
		}
		for i, n := range all {
			if !within(l, parts[i], n) {
				t.Errorf("%s over %s is %s", ast.ShowExpr(parts[i]), varsText(l), node(n))
			}
		}
	}
	if exprs < 10000 || conds < 5000 {
		t.Errorf("%d expressions, %d conditions: too few to tell anything", exprs, conds)
	}
}

// What Vars answers is what Expr finds columns in: all from tables and sources on.
func TestFromTablesToNodes(t *testing.T) {
	done := 0
	for seed := range uint64(8000) {
		r := rand.New(rand.NewPCG(17, seed))
		var tables []check.Table
		for _, name := range []string{"t", "u", "w"} {
			tables = append(tables, check.Table{Name: name, Cols: colsByChance(r)})
		}
		var from []ast.Source
		for range 1 + r.IntN(3) {
			s := ast.Source{Kind: pick(r, 0, 0, 1, 2, 3, 4), Var: pick(r, "", "", "x", "y", "z")}
			if s.Kind == 0 {
				s.Table = pick(r, "t", "u", "w")
			}
			from = append(from, s)
		}
		l, err := check.Vars(tables, from, "t")
		if err != api.OK {
			continue
		}
		m := maker{r, l, 100}
		e := m.of(1, 4)
		n, _, err := check.Expr(l, e)
		wantTold(t, l, e)
		if err == api.OK && !within(l, e, n) {
			t.Errorf("%s over %s is %s", ast.ShowExpr(e), varsText(l), node(n))
		}
		if err == api.OK && !isZero(n) {
			done++
		}
		for i, v := range l {
			own := slices.IndexFunc(tables, func(x check.Table) bool {
				return from[i].Kind == 0 && x.Name == from[i].Table || from[i].Kind > 0 && x.Name == "t"
			})
			if !reflect.DeepEqual(v.Source, from[i]) || !slices.Equal(v.Cols, tables[own].Cols) {
				t.Errorf("the source %+v: %+v", from[i], v)
			}
		}
	}
	if done < 2000 {
		t.Errorf("%d: too few to tell anything", done)
	}
}
