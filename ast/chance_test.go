package ast_test

import (
	"math"
	"math/rand/v2"
	"reflect"
	"slices"
	"strings"
	"testing"

	"tripwire/api"
	"tripwire/ast"
)

func pick[T any](r *rand.Rand, l ...T) T { return l[r.IntN(len(l))] }

func aNameByChance(r *rand.Rand) string {
	return pick(r, "a", "b", "t", "ab", "a_1", "abcdefghijklmnop")
}

func maybeAName(r *rand.Rand) string { return pick(r, "", "", aNameByChance(r)) }

func valueByChance(r *rand.Rand) api.Value {
	return pick(r, api.Value{}, api.Value{Kind: 1}, api.Value{Kind: 1, N: 1}, api.Value{Kind: 2, N: r.IntN(12)}, api.Value{Kind: 2, N: math.MaxInt},
		api.Value{Kind: 3, S: pick(r, "", "a", "'", "''", "a'b", "NULL", "1", "a, b", ") FROM t", strings.Repeat("'", 24))})
}

// exprByChance has at most depth expressions within one another.
func exprByChance(r *rand.Rand, depth int) ast.Expr {
	switch n := r.IntN(6); {
	case depth == 1 || n == 0:
		if r.IntN(2) == 0 {
			return val(valueByChance(r))
		}
		return dot(maybeAName(r), aNameByChance(r))
	case n < 3:
		return op(pick(r, "neg", "not", "null"), exprByChance(r, depth-1))
	}
	name := pick(r, "+", "-", "*", "=", "<>", "<", "<=", ">", ">=", "and", "or")
	if r.IntN(2) == 0 { // deep on one side alone, so that it doesn't grow too great
		return op(name, exprByChance(r, depth-1), exprByChance(r, min(depth-1, 2)))
	}
	return op(name, exprByChance(r, min(depth-1, 2)), exprByChance(r, depth-1))
}

func exprsByChance(r *rand.Rand, n int) []ast.Expr {
	return several(n, func(int) ast.Expr { return exprByChance(r, pick(r, 1, 2, 4, 20)) })
}

func sourcesByChance(r *rand.Rand, n int) []ast.Source {
	return several(n, func(int) ast.Source {
		if r.IntN(2) == 0 {
			return ast.Source{Table: aNameByChance(r), Var: maybeAName(r)}
		}
		return ast.Source{Kind: 1 + r.IntN(4), Var: maybeAName(r)}
	})
}

func colsByChance(r *rand.Rand) []api.Column {
	return several(1+r.IntN(6), func(i int) api.Column {
		return api.Column{Name: "abcdef"[i:i+1] + pick(r, "", "1", "_x"), Type: 1 + r.IntN(3), NotNull: r.IntN(2) == 0, Unique: r.IntN(2) == 0}
	})
}

func ruleByChance(r *rand.Rand) ast.Stmt {
	s := ast.Stmt{Kind: 8, Name: aNameByChance(r), Priority: pick(r, 0, 1, 10, 999, r.IntN(1000)), Event: 1 + r.IntN(3), Table: aNameByChance(r), Deferred: r.IntN(2) == 0}
	if s.From = sourcesByChance(r, r.IntN(4)); len(s.From) > 0 {
		s.Where = exprsByChance(r, r.IntN(2))
	}
	if s.Rolls = r.IntN(4) == 0; !s.Rolls {
		s.Acts = several(1+r.IntN(4), func(int) ast.Stmt { return stmtByChance(r, 12+r.IntN(3)) })
	}
	return s
}

// stmtByChance is a right statement of a Kind.
func stmtByChance(r *rand.Rand, kind int) ast.Stmt {
	s := ast.Stmt{Kind: kind}
	switch kind {
	case 4, 5, 9, 10, 11:
		s.Name = aNameByChance(r)
	case 6:
		s.Name, s.Cols = aNameByChance(r), colsByChance(r)
	case 7:
		s.Name, s.Table, s.Col = aNameByChance(r), aNameByChance(r), aNameByChance(r)
	case 8:
		return ruleByChance(r)
	case 12:
		if s.Table = aNameByChance(r); r.IntN(2) == 0 {
			s.Values = exprsByChance(r, 1+r.IntN(6))
			return s
		}
	case 13:
		s.Table, s.Where = aNameByChance(r), exprsByChance(r, r.IntN(2))
		s.Sets = several(1+r.IntN(6), func(int) ast.Set { return ast.Set{Col: aNameByChance(r), E: exprByChance(r, 3)} })
	case 14:
		s.Table, s.Where = aNameByChance(r), exprsByChance(r, r.IntN(2))
	}
	if kind == 12 || kind == 15 {
		s.Items, s.From, s.Where = exprsByChance(r, pick(r, 0, 1, 2, 3, r.IntN(41))), sourcesByChance(r, 1+r.IntN(3)), exprsByChance(r, r.IntN(2))
	}
	return s
}

// byChance is the same for the same number, and then shares no memory.
func byChance(seed uint64) ast.Stmt {
	return stmtByChance(rand.New(rand.NewPCG(38, seed)), 1+int(seed%15))
}

// leaves are all fields and lists that are anywhere within v.
func leaves(v reflect.Value, to []reflect.Value) []reflect.Value {
	switch v.Kind() {
	case reflect.Struct:
		for i := range v.NumField() {
			to = leaves(v.Field(i), to)
		}
		return to
	case reflect.Slice:
		for i := range v.Len() {
			to = leaves(v.Index(i), to)
		}
	}
	return append(to, v)
}

// alter changes one leaf, or one that is empty, or nothing.
func alter(r *rand.Rand, v reflect.Value) {
	switch v.Kind() {
	case reflect.Bool:
		v.SetBool(!v.Bool())
	case reflect.Int:
		v.SetInt(pick(r, v.Int()+1, v.Int()-1, -v.Int(), 0, 1, int64(r.IntN(17)), 999, 1000))
	case reflect.String:
		v.SetString(pick(r, "", "a", "b", "t", "A", "1", "abcdefghijklmnop", "abcdefghijklmnopq", v.String()+"1", "value", "column",
			"neg", "not", "null", "+", "-", "*", "=", "<>", "<", "<=", ">", ">=", "and", "or"))
	case reflect.Slice:
		alterList(r, v)
	}
}

func alterList(r *rand.Rand, v reflect.Value) {
	n := v.Len()
	if n == 0 || r.IntN(4) == 0 {
		v.Set(reflect.Append(v, oneMore(r, v)))
		return
	}
	switch a, b := r.IntN(n), r.IntN(n); r.IntN(3) {
	case 0:
		x, y := reflect.New(v.Type().Elem()).Elem(), v.Index(b)
		x.Set(v.Index(a))
		v.Index(a).Set(y)
		y.Set(x)
	case 1:
		v.Set(reflect.AppendSlice(v.Slice3(0, a, a), v.Slice(a+1, n)))
	default:
		v.Set(v.Slice3(0, a, a))
	}
	if v.Len() == 0 {
		v.SetZero()
	}
}

// oneMore is another element for a list, of its kind.
func oneMore(r *rand.Rand, v reflect.Value) reflect.Value {
	switch v.Interface().(type) {
	case []ast.Expr:
		return reflect.ValueOf(exprByChance(r, 2))
	case []ast.Source:
		return reflect.ValueOf(sourcesByChance(r, 1)[0])
	case []ast.Set:
		return reflect.ValueOf(ast.Set{Col: aNameByChance(r), E: exprByChance(r, 2)})
	case []api.Column:
		return reflect.ValueOf(api.Column{Name: aNameByChance(r), Type: 1 + r.IntN(3)})
	}
	return reflect.ValueOf(stmtByChance(r, 12+r.IntN(3)))
}

// nudge changes one leaf, so that what has it is often right still: an Op is one with as many Kids, a name another one.
func nudge(r *rand.Rand, v reflect.Value) {
	switch v.Kind() {
	case reflect.Int:
		v.SetInt(v.Int() + 1)
	case reflect.String:
		for range 20 {
			k := pick(r, ops()...)
			if at := slices.IndexFunc(ops(), func(k known) bool { return k.name == v.String() }); at >= 0 && ops()[at].kids == k.kids && k.kids > 0 {
				v.SetString(k.name)
				return
			}
		}
		v.SetString(aNameByChance(r))
	default:
		alter(r, v)
	}
}

// altered is the statement of a number with a few leaves changed.
func altered(seed, more uint64) ast.Stmt {
	s := byChance(seed)
	r := rand.New(rand.NewPCG(seed, more))
	gently := r.IntN(3) > 0
	for range 1 + r.IntN(2)*r.IntN(3) {
		l := leaves(reflect.ValueOf(&s).Elem(), nil)
		if full := slices.DeleteFunc(slices.Clone(l), empty); gently && len(full) > 1 { // the first one is the Kind
			nudge(r, pick(r, full[1:]...))
		} else {
			alter(r, pick(r, l...))
		}
	}
	return s
}

func TestStatementsByChance(t *testing.T) {
	for seed := range uint64(15000) {
		s := byChance(seed)
		if !ast.Right(s) {
			t.Fatalf("%s isn't right", short(s))
		}
		if got, want := ast.Show(s), told(s); got != want || want == "" {
			t.Fatalf("%q, not %q", got, want)
		}
	}
}

func TestAlteredStatements(t *testing.T) {
	right, wrong := 0, 0
	for seed := range uint64(30000) {
		s := altered(seed, 1)
		want := toldRight(s)
		if ast.Right(s) != want {
			t.Fatalf("%s is right: %v", short(s), !want)
		}
		if got, want := ast.Show(s), told(s); got != want {
			t.Fatalf("%q, not %q", got, want)
		}
		if want {
			right++
		} else {
			wrong++
		}
	}
	if right < 5000 || wrong < 5000 {
		t.Errorf("%d are right, %d aren't: too few to tell anything", right, wrong)
	}
}

func TestAlteredExpressions(t *testing.T) {
	for seed := range uint64(40000) {
		r := rand.New(rand.NewPCG(seed, 2))
		e := exprByChance(r, pick(r, 1, 2, 3, 6, 20, 21, 22))
		for range r.IntN(3) {
			alter(r, pick(r, leaves(reflect.ValueOf(&e).Elem(), nil)...))
		}
		want := ""
		if toldExpr(e) {
			want = toldText(e)
		}
		if ast.RightExpr(e) != (want != "") || ast.ShowExpr(e) != want {
			t.Fatalf("%s: %q, not %q", short(e), ast.ShowExpr(e), want)
		}
	}
}
