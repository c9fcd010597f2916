package pred_test

import (
	"math"
	"math/rand/v2"
	"slices"
	"strings"
	"testing"

	"tripwire/api"
	"tripwire/ast"
	"tripwire/check"
	"tripwire/expr"
	"tripwire/index"
	"tripwire/pred"
	"tripwire/schema"
)

func pick[T any](r *rand.Rand, l ...T) T { return l[r.IntN(len(l))] }

// valueByChance is a right value of a type: one of few, so that they meet one another.
func valueByChance(r *rand.Rand, kind int) api.Value {
	switch kind {
	case api.Bool:
		return boolean(r.IntN(2))
	case api.Int:
		return number(pick(r, 0, 1, 2, 3, -1, -2, math.MaxInt, math.MinInt))
	case api.Text:
		return text(pick(r, "", "a", "b", "ab", "'", strings.Repeat("a", api.MaxText)))
	}
	return null
}

// anyValue is mostly a right one.
func anyValue(r *rand.Rand) api.Value {
	if r.IntN(4) == 0 {
		return pick(r, inOrder()...)
	}
	return valueByChance(r, r.IntN(4))
}

func anyRow(r *rand.Rand) []api.Value {
	var l []api.Value
	for range r.IntN(6) {
		l = append(l, anyValue(r))
	}
	return l
}

// rowByChance fits t.
func rowByChance(r *rand.Rand) []api.Value { return fitting(r, vars()[0].Cols) }

func fitting(r *rand.Rand, cols []api.Column) []api.Value {
	var l []api.Value
	for _, c := range cols {
		if !c.NotNull && r.IntN(4) == 0 {
			l = append(l, null)
		} else {
			l = append(l, valueByChance(r, c.Type))
		}
	}
	return l
}

// condByChance is a condition that Of makes, one that has been checked or not, or one of any tests and nodes.
func condByChance(r *rand.Rand) pred.Cond {
	if r.IntN(2) == 0 {
		m := maker{r, vars()[0], r.IntN(4) > 0}
		if l, e := check.Cond(vars(), []ast.Expr{m.asked(1 + r.IntN(3))}); e == api.OK {
			return pred.Of(l)
		}
	}
	if r.IntN(2) == 0 {
		return pred.Of(anyNodes(r))
	}
	return anyCond(r)
}

// maker makes expressions over a variable that are of the types that are asked for; safe ones, if that is wanted.
type maker struct {
	*rand.Rand
	v    check.Var
	safe bool
}

// asked is so many parts with ANDs between them; most of them make tests.
func (m maker) asked(parts int) ast.Expr {
	e := m.part()
	for range parts - 1 {
		e = ast.Expr{Op: "and", Kids: []ast.Expr{e, m.part()}}
	}
	return e
}

func (m maker) part() ast.Expr {
	kind := 1 + m.IntN(3)
	switch m.IntN(6) {
	case 0:
		return m.of(api.Bool, 3)
	case 1:
		return ast.Expr{Op: "null", Kids: []ast.Expr{m.column(kind)}}
	}
	kids := []ast.Expr{m.column(kind), m.value(kind)}
	m.Shuffle(2, func(i, k int) { kids[i], kids[k] = kids[k], kids[i] })
	return ast.Expr{Op: pick(m.Rand, compares()...), Kids: kids}
}

// column is a column of a type; if the variable has none such, a value.
func (m maker) column(kind int) ast.Expr {
	var l []ast.Expr
	for _, c := range m.v.Cols {
		if c.Type == kind {
			l = append(l, ast.Expr{Op: "column", Var: pick(m.Rand, "", m.v.Name), Col: c.Name})
		}
	}
	if len(l) == 0 {
		return m.value(kind)
	}
	return pick(m.Rand, l...)
}

func (m maker) value(kind int) ast.Expr {
	v := valueByChance(m.Rand, kind)
	if v.N < 0 || m.IntN(12) == 0 {
		v = null // a number below 0 is no value of an expression
	}
	return ast.Expr{Op: "value", V: v}
}

// of is at most depth expressions within one another.
func (m maker) of(kind, depth int) ast.Expr {
	two := func(name string, kind int) ast.Expr {
		return ast.Expr{Op: name, Kids: []ast.Expr{m.of(kind, depth-1), m.of(kind, depth-1)}}
	}
	switch {
	case depth == 1, m.IntN(5) == 0, m.safe && kind != api.Bool:
		return pick(m.Rand, m.column(kind), m.value(kind))
	case kind == api.Int:
		return two(pick(m.Rand, "+", "-", "*"), api.Int)
	case kind == api.Text:
		return two("+", api.Text)
	case m.IntN(5) == 0:
		return ast.Expr{Op: "not", Kids: []ast.Expr{m.of(api.Bool, depth-1)}}
	case m.IntN(5) == 0:
		return ast.Expr{Op: "null", Kids: []ast.Expr{m.of(1+m.IntN(3), depth-1)}}
	case m.IntN(2) == 0:
		return two(pick(m.Rand, compares()...), 1+m.IntN(3))
	}
	return two(pick(m.Rand, "and", "or"), api.Bool)
}

// varByChance is a variable whose columns are right.
func varByChance(r *rand.Rand) check.Var {
	v := check.Var{Name: "x"}
	for _, name := range []string{"a", "b", "c", "d", "e", "f"}[:1+r.IntN(6)] {
		v.Cols = append(v.Cols, api.Column{Name: name, Type: 1 + r.IntN(3), NotNull: r.IntN(3) == 0})
	}
	return v
}

// each tells whether nodes are true of a row, each on its own.
func each(t *testing.T, l []check.Node, r []api.Value) bool {
	t.Helper()
	all := true
	for _, n := range l {
		v, e := expr.Eval(n, [][]api.Value{r})
		if e != api.OK {
			t.Errorf("%s of %s: %d, though it is safe", short(n), short(r), e)
		}
		all = all && v == yes
	}
	return all
}

// Of safe nodes of one variable, that was checked, a row that fits meets their condition just if they are all true of it.
func TestSafeNodesByChance(t *testing.T) {
	met, unmet, many := 0, 0, 0
	for seed := range uint64(20000) {
		r := rand.New(rand.NewPCG(172, seed))
		v := varByChance(r)
		m := maker{r, v, true}
		e := m.asked(1 + r.IntN(4))
		l, code := check.Cond([]check.Var{v}, []ast.Expr{e})
		if schema.Columns(v.Cols) != api.OK || code != api.OK || slices.ContainsFunc(l, func(n check.Node) bool { return !check.Safe(n) }) {
			t.Fatalf("%s: %d", ast.ShowExpr(e), code)
		}
		wantToldOf(t, l)
		c := pred.Of(l)
		many += len(c.Tests)
		x := pred.New()
		x.Add(0, c)
		for range 6 {
			row := fitting(r, v.Cols)
			if schema.Fit(v.Cols, row) != api.OK {
				t.Fatalf("%v doesn't fit %v", row, v.Cols)
			}
			want := each(t, l, row)
			if pred.Meets(c, row) != want || (len(x.Match(row)) == 1) != want {
				t.Errorf("%s over %s is %v", ast.ShowExpr(e), short(row), want)
			}
			if want {
				met++
			} else {
				unmet++
			}
		}
	}
	if met < 10000 || unmet < 10000 || many < 20000 {
		t.Error(met, unmet, many, "too few to tell anything")
	}
}

// Each comparison of a column of each type with each value of that type or NULL, and null of it, of each row that fits.
func TestSafeNodesOneByOne(t *testing.T) {
	for kind := api.Bool; kind <= api.Text; kind++ {
		fit := slices.DeleteFunc(rightOnes(), func(v api.Value) bool { return v != null && v.Kind != kind })
		l := nodes(op("null", column(0)), op("not", op("null", column(0))))
		for _, name := range compares() {
			for _, v := range fit {
				l = append(l, op(name, column(0), val(v)), op(name, val(v), column(0)))
			}
			l = append(l, op(name, column(0), column(0)))
		}
		for _, n := range l {
			for _, v := range fit {
				want := each(t, nodes(n), row(v))
				if got := pred.Meets(pred.Of(nodes(n)), row(v)); got != want {
					t.Errorf("%s meets %s: %v", short(v), short(n), got)
				}
			}
		}
	}
}

// Also where it isn't safe: an error means that it isn't met.
func TestCheckedNodesByChance(t *testing.T) {
	met, errors := 0, 0
	for seed := range uint64(10000) {
		r := rand.New(rand.NewPCG(173, seed))
		v := varByChance(r)
		l, code := check.Cond([]check.Var{v}, []ast.Expr{maker{r, v, false}.asked(1 + r.IntN(3))})
		if code != api.OK {
			t.Fatal(code)
		}
		for range 4 {
			row := fitting(r, v.Cols)
			all, e := expr.All(l, [][]api.Value{row})
			if got := pred.Meets(pred.Of(l), row); got != all {
				t.Errorf("%s meets %s: %v", short(row), short(l), got)
			}
			if all {
				met++
			}
			if e != api.OK {
				errors++
			}
		}
	}
	if met < 2000 || errors < 100 {
		t.Error(met, errors, "too few to tell anything")
	}
}

// anyNode is one that nobody checked. Many look like tests.
func anyNode(r *rand.Rand, depth int) check.Node {
	n := check.Node{V: anyValue(r), Var: pick(r, 0, 0, 0, 0, 0, 0, 1, -1), Col: pick(r, 0, 0, 1, 2, 3, -1, 5, math.MaxInt)}
	count := pick(r, 0, 1, 2, 2, 2, 2)
	if depth == 1 {
		count = 0
	}
	switch count {
	case 0:
		n.Op = pick(r, "column", "value")
	case 1:
		n.Op = pick(r, "null", "null", "not", "neg")
	case 2:
		n.Op = pick(r, pick(r, compares()...), "and", "or", "+", "=")
	}
	switch r.IntN(40) {
	case 0:
		count = r.IntN(4)
	case 1:
		n.Op = pick(r, anyOps()...)
	}
	for range count {
		n.Kids = append(n.Kids, anyNode(r, max(1, depth-1)))
	}
	return n
}

// likeTest is a comparison of leaves, or null of one, which may make a test.
func likeTest(r *rand.Rand) check.Node {
	if r.IntN(4) == 0 {
		return op("null", anyNode(r, 1))
	}
	kids := nodes(columnOf(pick(r, 0, 0, 0, 0, 1), r.IntN(4)), val(anyValue(r)))
	r.Shuffle(2, func(i, k int) { kids[i], kids[k] = kids[k], kids[i] })
	return op(pick(r, compares()...), kids...)
}

func anyNodes(r *rand.Rand) []check.Node {
	var l []check.Node
	for range r.IntN(4) {
		l = append(l, pick(r, likeTest(r), anyNode(r, 1+r.IntN(4))))
	}
	return l
}

func anyBound(r *rand.Rand) index.Bound {
	return index.Bound{Has: r.IntN(3) > 0, Incl: r.IntN(2) == 0, V: anyValue(r)}
}

// anyCond is one that Of didn't make; of its nodes most are true of most rows, so that its tests have a say.
func anyCond(r *rand.Rand) pred.Cond {
	var c pred.Cond
	for range r.IntN(3) {
		c.Tests = append(c.Tests, pred.Test{Col: pick(r, 0, 0, 0, 1, 1, 2, 3, 4, -1, math.MaxInt, math.MinInt), Lo: anyBound(r), Hi: anyBound(r)})
	}
	for range r.IntN(3) {
		c.Rest = append(c.Rest, pick(r, val(yes), op("not", op("null", column(0))), anyNode(r, 3)))
	}
	return c
}

// Nodes, conditions and rows of any form: nothing panics, and all is as the chapter says.
func TestWhateverNodesAndConditions(t *testing.T) {
	met, unmet, tests, rest := 0, 0, 0, 0
	for seed := range uint64(40000) {
		r := rand.New(rand.NewPCG(174, seed))
		l := anyNodes(r)
		wantToldOf(t, l)
		made := pred.Of(l)
		tests, rest = tests+len(made.Tests), rest+len(made.Rest)
		for _, c := range []pred.Cond{made, anyCond(r)} {
			for _, row := range [][]api.Value{anyRow(r), rowByChance(r), nil} {
				wantToldMeets(t, c, row)
				if pred.Meets(c, row) {
					met++
				} else {
					unmet++
				}
			}
		}
	}
	if met < 10000 || unmet < 10000 || tests < 5000 || rest < 5000 {
		t.Error(met, unmet, tests, rest, "too few to tell anything")
	}
}
