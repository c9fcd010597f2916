package expr_test

import (
	"math"
	"math/rand/v2"
	"slices"
	"strings"
	"testing"

	"tripwire/api"
	"tripwire/ast"
	"tripwire/check"
	"tripwire/expr"
	"tripwire/schema"
	"tripwire/value"
)

func pick[T any](r *rand.Rand, l ...T) T { return l[r.IntN(len(l))] }

// valueByChance is a right value of a type.
func valueByChance(r *rand.Rand, kind int) api.Value {
	switch kind {
	case api.Bool:
		return boolean(r.IntN(2))
	case api.Int:
		return number(pick(r, 0, 1, 2, 3, -1, -7, 1<<31, -1<<40, 3037000500, math.MaxInt, math.MaxInt-1, math.MinInt, math.MinInt+1))
	case api.Text:
		return text(strings.Repeat(pick(r, "a", "b", "'", "\x00", "\xff"), pick(r, 0, 1, 1, 2, 3, 12, 13, 23, 24)))
	}
	return null
}

// varsByChance are one to three variables, whose columns are right.
func varsByChance(r *rand.Rand) []check.Var {
	var l []check.Var
	for _, name := range []string{"x", "y", "z"}[:1+r.IntN(3)] {
		var cols []api.Column
		for _, col := range []string{"a", "b", "c", "d", "e", "f"}[:1+r.IntN(6)] {
			cols = append(cols, api.Column{Name: col, Type: 1 + r.IntN(3), NotNull: r.IntN(3) == 0})
		}
		l = append(l, check.Var{Name: name, Cols: cols})
	}
	return l
}

// rowsByChance are rows that fit the variables' columns.
func rowsByChance(t *testing.T, r *rand.Rand, l []check.Var) [][]api.Value {
	var rows [][]api.Value
	for _, v := range l {
		var row []api.Value
		for _, c := range v.Cols {
			if !c.NotNull && r.IntN(5) == 0 {
				row = append(row, null)
			} else {
				row = append(row, valueByChance(r, c.Type))
			}
		}
		if schema.Columns(v.Cols) != api.OK || schema.Fit(v.Cols, row) != api.OK {
			t.Fatalf("%v doesn't fit %v", row, v.Cols)
		}
		rows = append(rows, row)
	}
	return rows
}

// maker makes expressions over variables that are of the types that are asked for, but one part in wrong.
type maker struct {
	*rand.Rand
	vars  []check.Var
	wrong int
}

func (m maker) leaf(kind int) ast.Expr {
	var all []ast.Expr
	for _, v := range m.vars {
		for _, c := range v.Cols {
			if c.Type == kind {
				all = append(all, ast.Expr{Op: "column", Var: v.Name, Col: c.Name})
			}
		}
	}
	if len(all) > 0 && m.IntN(3) > 0 {
		return pick(m.Rand, all...)
	}
	v := valueByChance(m.Rand, kind)
	if v.Kind == api.Int && v.N < 0 {
		v.N = 5
	}
	return ast.Expr{Op: "value", V: v}
}

// of is at most depth expressions within one another.
func (m maker) of(kind, depth int) ast.Expr {
	if m.IntN(m.wrong) == 0 {
		kind = m.IntN(4)
	}
	if m.IntN(15) == 0 {
		kind = api.Null
	}
	if depth == 1 || m.IntN(6) == 0 {
		return m.leaf(kind)
	}
	one := func(name string, kind int) ast.Expr {
		return ast.Expr{Op: name, Kids: []ast.Expr{m.of(kind, depth-1)}}
	}
	two := func(kind int, names ...string) ast.Expr {
		kids := []ast.Expr{m.of(kind, depth-1), m.of(kind, min(depth-1, 1+m.IntN(3)))}
		if m.IntN(2) == 0 {
			slices.Reverse(kids)
		}
		return ast.Expr{Op: pick(m.Rand, names...), Kids: kids}
	}
	switch {
	case kind == api.Bool && m.IntN(6) == 0:
		return one("not", api.Bool)
	case kind == api.Bool && m.IntN(6) == 0:
		return one("null", m.IntN(4))
	case kind == api.Bool && m.IntN(2) == 0:
		return two(m.IntN(4), compares()...)
	case kind == api.Bool:
		return two(api.Bool, "and", "or")
	case kind == api.Int && m.IntN(4) == 0:
		return one("neg", api.Int)
	case kind == api.Int:
		return two(api.Int, reckons()...)
	}
	return two(kind, "+")
}

// counts tells how often something was met, so that a test can say that it had too little to tell anything.
type counts map[string]int

func (c counts) want(t *testing.T, least int, names ...string) {
	t.Helper()
	for _, name := range names {
		if c[name] < least {
			t.Errorf("%v: too few of %q to tell anything", c, name)
		}
	}
}

func kindName(kind int) string { return []string{"NULL", "BOOL", "INT", "TEXT"}[kind] }

// What was checked, over rows that fit, has a value of its type, or NULL, or ErrRange or ErrLong; if it is safe, no error.
func TestCheckedExpressionsByChance(t *testing.T) {
	met := counts{}
	for seed := range uint64(40000) {
		r := rand.New(rand.NewPCG(16, seed))
		vars := varsByChance(r)
		e := maker{r, vars, pick(r, 20, 1000)}.of(pick(r, 0, 1, 1, 1, 2, 3), pick(r, 1, 2, 3, 4, 6, 9, 20))
		n, kind, code := check.Expr(vars, e)
		if code != api.OK {
			met["refused"]++
			continue
		}
		for range 4 {
			rows := rowsByChance(t, r, vars)
			wantTold(t, n, rows)
			v, code := expr.Eval(n, rows)
			wantKind(t, e, n, kind, v, code)
			met[meetName(kind, v, code)]++
			if check.Safe(n) {
				met["safe"]++
			}
		}
	}
	met.want(t, 500, "BOOL of BOOL", "INT of INT", "TEXT of TEXT", "NULL of NULL", "NULL of BOOL", "NULL of INT", "NULL of TEXT", "ErrRange", "ErrLong", "safe", "refused")
}

func meetName(kind int, v api.Value, code api.Errno) string {
	switch code {
	case api.ErrRange:
		return "ErrRange"
	case api.ErrLong:
		return "ErrLong"
	}
	return kindName(v.Kind) + " of " + kindName(kind)
}

func wantKind(t *testing.T, e ast.Expr, n check.Node, kind int, v api.Value, code api.Errno) {
	t.Helper()
	switch {
	case code != api.OK && code != api.ErrRange && code != api.ErrLong:
		t.Errorf("%s: the error %d", ast.ShowExpr(e), code)
	case code != api.OK && check.Safe(n):
		t.Errorf("%s is safe, but has the error %d", ast.ShowExpr(e), code)
	case code != api.OK && v != null:
		t.Errorf("%s: %v beside the error %d", ast.ShowExpr(e), v, code)
	case !value.Right(v) || v != null && v.Kind != kind:
		t.Errorf("%s, of the type %d, is %v", ast.ShowExpr(e), kind, v)
	}
}

// Conditions taken apart, and lists of items: All and Row of what was checked.
func TestCheckedListsByChance(t *testing.T) {
	met := counts{}
	for seed := range uint64(10000) {
		r := rand.New(rand.NewPCG(17, seed))
		vars := varsByChance(r)
		m := maker{r, vars, 1000}
		e := m.of(api.Bool, 5)
		l, code := check.Cond(vars, []ast.Expr{e})
		if code != api.OK {
			continue
		}
		n, _, _ := check.Expr(vars, e)
		var items []check.Node
		var kinds []int
		for range r.IntN(5) {
			if item, kind, code := check.Expr(vars, m.of(r.IntN(4), 3)); code == api.OK {
				items, kinds = append(items, item), append(kinds, kind)
			}
		}
		rows := rowsByChance(t, r, vars)
		wantToldLists(t, l, rows)
		wantToldLists(t, items, rows)
		all, code := expr.All(l, rows)
		met[map[bool]string{true: "all", false: "not all"}[all]]++
		if code != api.OK && (slices.IndexFunc(l, func(n check.Node) bool { return !check.Safe(n) }) < 0 || code != api.ErrRange && code != api.ErrLong) {
			t.Errorf("%s: the error %d", ast.ShowExpr(e), code)
		}
		if v, code := expr.Eval(n, rows); code == api.OK && all != (v == yes) {
			t.Errorf("%s is %v, and all of it %v", ast.ShowExpr(e), v, all)
		}
		row, code := expr.Row(items, rows)
		for i, v := range row {
			met["item"]++
			if v != null && v.Kind != kinds[i] {
				t.Errorf("%s, of the type %d, is %v", short(items[i]), kinds[i], v)
			}
		}
		if code != api.OK {
			met["no row"]++
		}
	}
	met.want(t, 500, "all", "not all", "item", "no row")
}

// anyNode is one that nobody checked: any op, any number of Kids, any column. Most values are of one kind, so that not all
// of them meet ErrType.
func anyNode(r *rand.Rand, kind, depth int) check.Node {
	n := check.Node{V: anyValue(r, kind), Var: pick(r, -1, 0, 0, 0, 1, 1, 1, 2, 3), Col: pick(r, -1, 0, 0, 0, 1, 1, 1, 2, 3)}
	count := pick(r, 0, 1, 1, 2, 2, 2)
	if depth == 1 {
		count = 0
	}
	n.Op = pick(r, strings.Fields(needed()[count])...)
	if n.Op == "column" && r.IntN(2) == 0 {
		n.Op = "value"
	}
	switch r.IntN(100) {
	case 0:
		count = r.IntN(5)
	case 1:
		n.Op = pick(r, noOps()...)
	}
	for range count {
		n.Kids = append(n.Kids, anyNode(r, kind, max(1, depth-1)))
	}
	return n
}

func anyValue(r *rand.Rand, kind int) api.Value {
	switch r.IntN(30) {
	case 0:
		return pick(r, wrong()...)
	case 1, 2, 3, 4:
		kind = r.IntN(4)
	}
	return valueByChance(r, kind)
}

// anyRows have any number of rows, each with any number of values.
func anyRows(r *rand.Rand, kind int) [][]api.Value {
	var rows [][]api.Value
	for range pick(r, 0, 1, 2, 2, 3, 3, 4) {
		var row []api.Value
		for range pick(r, 0, 1, 2, 2, 3, 3, 4) {
			row = append(row, anyValue(r, kind))
		}
		rows = append(rows, row)
	}
	return rows
}

func TestWhateverNodes(t *testing.T) {
	met := counts{}
	for seed := range uint64(60000) {
		r := rand.New(rand.NewPCG(18, seed))
		kind := 1 + r.IntN(3)
		n, rows := anyNode(r, kind, 1+r.IntN(5)), anyRows(r, kind)
		wantTold(t, n, rows)
		l := nodes(n)
		for range r.IntN(4) {
			l = append(l, pick(r, val(yes), val(no), val(null), anyNode(r, kind, 1+r.IntN(4))))
		}
		wantToldLists(t, l, rows)
		_, code := expr.Eval(n, rows)
		met[[]string{api.OK: "OK", api.ErrType: "ErrType", api.ErrRange: "ErrRange", api.ErrLong: "ErrLong", api.ErrArg: "ErrArg"}[code]]++
	}
	met.want(t, 100, "OK", "ErrType", "ErrRange", "ErrLong", "ErrArg")
}

// All small nodes: each op over each few leaves, and over those again.
func TestAllSmallNodes(t *testing.T) {
	rows := [][]api.Value{{number(math.MaxInt), text("aaaaaaaaaaaaaaaaaaaaaaaa")}, {null}}
	leaves := nodes(val(null), val(no), val(yes), val(number(1)), val(text("b")), column(0, 0), column(0, 1), column(1, 0), column(1, 1), op("no"), op("and", val(no)))
	around := func(a, b []check.Node) []check.Node {
		var out []check.Node
		for _, x := range a {
			for _, name := range ones() {
				out = append(out, op(name, x))
			}
			for _, y := range b {
				for _, name := range twos() {
					out = append(out, op(name, x, y), op(name, y, x))
				}
			}
		}
		return out
	}
	small := around(leaves, leaves)
	few := nodes(val(null), val(no), val(yes), column(0, 0), op("neg", val(number(math.MinInt))))
	for _, n := range slices.Concat(leaves, small, around(around(few, few), leaves)) {
		wantTold(t, n, rows)
	}
	for _, n := range small {
		wantToldLists(t, nodes(val(yes), n), rows)
		wantToldLists(t, nodes(n, column(9, 9)), rows)
	}
}
