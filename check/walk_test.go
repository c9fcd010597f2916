package check_test

import (
	"math"
	"math/rand/v2"
	"slices"
	"testing"

	"tripwire/api"
	"tripwire/ast"
	"tripwire/check"
)

// allOps are all ops, and others that no expression has.
func allOps() []string {
	return slices.Concat([]string{"value", "column"}, ones(), twos(), []string{"", "no", "++", "Neg", "/", "column ", "Column"})
}

func mayFail(name string) bool { return slices.Contains([]string{"+", "-", "*", "neg"}, name) }

func leaf(v, c int) check.Node { return check.Node{Op: "column", Var: v, Col: c} }

func of(name string, kids ...check.Node) check.Node { return check.Node{Op: name, Kids: kids} }

func wantSafe(t *testing.T, n check.Node, want bool) {
	t.Helper()
	if check.Safe(n) != want {
		t.Errorf("%s is safe: %v", short(n), !want)
	}
}

func wantUses(t *testing.T, n check.Node, want ...int) {
	t.Helper()
	if got := check.Uses(n); !slices.Equal(got, want) {
		t.Errorf("%s uses %v, not %v", short(n), got, want)
	}
}

func TestSafeByHand(t *testing.T) {
	l := someVars()
	for text, want := range map[string]bool{
		"1": true, "NULL": true, "'+'": true, "'-' = 'neg'": true, "x.a": true, "x.a = u.a": true, "NOT c": true, "b IS NULL": true, "c AND d OR c": true,
		"x.a <> 1": true, "x.a < 1": true, "x.a <= 1": true, "x.a > 1": true, "x.a >= 1": true, "NOT (c OR (x.a = 1 AND b IS NULL))": true,
		"x.a + 1": false, "x.a - 1": false, "x.a * 1": false, "- x.a": false, "b + 's'": false, "NULL + NULL": false, "- NULL": false,
		"x.a + 1 = 2": false, "2 = x.a * 2": false, "c AND - f = 1": false, "(f - 1) IS NULL": false, "NOT (c OR (x.a = 1 AND b = e + 's'))": false,
		"f * 2 < 1 AND c": false, "c AND (d OR (c AND (d OR 1 = 1 - 1)))": false,
	} {
		n, _, e := check.Expr(l, expr(t, text))
		if e != api.OK {
			t.Error(text, e)
		}
		wantSafe(t, n, want)
	}
}

func TestUsesByHand(t *testing.T) {
	l := someVars()
	for text, want := range map[string][]int{
		"1": nil, "NULL": nil, "1 + 2 = 3 AND TRUE": nil, "'a' IS NULL": nil,
		"x.a": {0}, "c": {1}, "f": {2}, "NOT c": {1}, "- f": {2}, "b IS NULL": {0},
		"x.a = x.a": {0}, "x.a = u.a": {0, 1}, "u.a = x.a": {0, 1}, "f = x.a": {0, 2}, "c = d": {1, 2}, "d = c": {1, 2},
		"f + x.a * u.a = 1": {0, 1, 2}, "d AND c OR b = e AND x.a = 1": {0, 1, 2}, "e = 's' OR e = 't' OR f = 1": {2}, "f = 1 AND (u.a = 2 AND f = 3)": {1, 2},
	} {
		n, _, e := check.Expr(l, expr(t, text))
		if e != api.OK {
			t.Error(text, e)
		}
		wantUses(t, n, want...)
	}
}

// Each op at the top, at the left and at the right, deep in others, and among many Kids.
func TestEachOpWhereverItStands(t *testing.T) {
	for _, name := range allOps() {
		safe := !mayFail(name)
		for _, n := range []check.Node{of(name), of(name, leaf(3, 0)), of(name, leaf(5, 1), leaf(3, 2))} {
			var want []int
			if len(n.Kids) > 0 {
				want = append(want, 3)
			}
			if len(n.Kids) > 1 {
				want = append(want, 5)
			}
			if name == "column" {
				n.Var = 4
				want = append(want, 4)
				slices.Sort(want)
			}
			for _, m := range []check.Node{n, of("not", n), of("and", of("value"), n), of("or", n, of("value")), of("", of("value", of("null", n))), of("=", n, n, n, n)} {
				wantSafe(t, m, safe)
				wantUses(t, m, want...)
			}
		}
	}
}

// A number of a variable is one of a column alone; and the columns' own numbers are none.
func TestUsesColumnsAlone(t *testing.T) {
	for _, name := range allOps() {
		n := check.Node{Op: name, Var: 7, Col: 8, V: api.Value{Kind: 2, N: 9}}
		if name == "column" {
			wantUses(t, n, 7)
		} else {
			wantUses(t, n)
		}
	}
	wantUses(t, check.Node{})
	wantSafe(t, check.Node{}, true)
	wantUses(t, of("and", leaf(2, 0), leaf(0, 5), leaf(2, 1), leaf(-1, 0), leaf(math.MaxInt, 0), leaf(math.MinInt, 0), leaf(0, 0)), math.MinInt, -1, 0, 2, math.MaxInt)
}

// Variables rise, each once, in whatever order they stand.
func TestUsesInEachOrder(t *testing.T) {
	for _, l := range [][]int{{0, 1, 2}, {0, 2, 1}, {1, 0, 2}, {1, 2, 0}, {2, 0, 1}, {2, 1, 0}} {
		a, b, c := leaf(l[0], 1), leaf(l[1], 0), leaf(l[2], 2)
		for _, n := range []check.Node{of("and", of("=", a, b), c), of("and", a, of("=", b, c)), of("and", of("=", a, b), of("=", c, a)), of("or", of("<", of("+", a, b), c), of("=", b, b))} {
			wantUses(t, n, 0, 1, 2)
		}
	}
}

// anyNode is one that Expr may never make.
func anyNode(r *rand.Rand, depth int) check.Node {
	n := check.Node{Op: pick(r, allOps()...), V: api.Value{Kind: r.IntN(5), N: r.IntN(3), S: pick(r, "", "+", `Op:"+"`, `Op:"column"`, `\"`)}, Var: r.IntN(9) - 2, Col: r.IntN(9) - 2}
	if n.Op == "+" || mayFail(n.Op) && r.IntN(2) == 0 {
		n.Op = "column" // so that many are safe
	}
	if depth > 1 {
		for range pick(r, 0, 1, 1, 2, 2, 3, 5) {
			n.Kids = append(n.Kids, anyNode(r, depth-1))
		}
	}
	return n
}

func TestWhateverNodes(t *testing.T) {
	safe := 0
	for seed := range uint64(6000) {
		r := rand.New(rand.NewPCG(44, seed))
		n := anyNode(r, 1+r.IntN(5))
		wantSafe(t, n, toldSafe(n))
		wantUses(t, n, toldUses(n)...)
		if check.Safe(n) {
			safe++
		}
	}
	if safe < 500 || safe > 5500 {
		t.Errorf("%d are safe: too few or too many to tell anything", safe)
	}
}

// Nodes may stand within one another as deep as anything is promised; beside them others may stand in any number.
func TestDeepAndWideNodes(t *testing.T) {
	for _, name := range []string{"not", "column"} {
		n := leaf(3, 0)
		bad := of("neg")
		for i := range 60000 {
			n = check.Node{Op: name, Var: i % 3, Kids: []check.Node{n}}
			bad = check.Node{Op: name, Var: i % 3, Kids: []check.Node{bad}}
		}
		wantSafe(t, n, true)
		wantSafe(t, bad, false)
		if name == "not" {
			wantUses(t, n, 3)
			wantUses(t, bad)
		} else {
			wantUses(t, n, 0, 1, 2, 3)
			wantUses(t, bad, 0, 1, 2)
		}
	}
	wide := of("and", make([]check.Node, 200000)...)
	wantSafe(t, wide, true)
	wantUses(t, wide)
	for i := range wide.Kids {
		wide.Kids[i] = leaf(i%1000, 0)
	}
	if got := check.Uses(wide); len(got) != 1000 || got[0] != 0 || got[999] != 999 || !slices.IsSorted(got) {
		t.Error(len(got))
	}
	wide.Kids[199999].Op = "*"
	wantSafe(t, wide, false)
}

// Of a node that stands within itself nothing is promised but that each call ends.
func TestNodesWithinThemselves(t *testing.T) {
	for n := 1; n <= 3; n++ {
		for _, name := range []string{"and", "column", "+"} {
			kids := make([]check.Node, n)
			for i := range kids {
				kids[i] = check.Node{Op: name, Var: i, Kids: kids}
			}
			check.Safe(kids[0])
			check.Uses(kids[0])
		}
	}
}

// rising is a list in order, each number once.
func rising(l []int) []int {
	slices.Sort(l)
	return slices.Compact(l)
}

// Of what Expr answers both are told by the expression.
func TestSafeAndUsesOfExpressions(t *testing.T) {
	for seed := range uint64(4000) {
		l, e := typedByChance(seed)
		n, _, err := check.Expr(l, e)
		if err != api.OK {
			continue
		}
		safe := true
		var uses []int
		for _, x := range laid(e, nil) {
			safe = safe && !mayFail(x.Op)
			if p, err := toldColumn(l, x); x.Op == "column" && err == api.OK {
				uses = append(uses, p.n.Var)
			}
		}
		uses = rising(uses)
		wantSafe(t, n, safe)
		wantUses(t, n, uses...)
		if all, err := check.Cond(l, []ast.Expr{e}); err == api.OK {
			var parts []int
			every := true
			for _, m := range all {
				parts = append(parts, check.Uses(m)...)
				every = every && check.Safe(m)
			}
			if parts = rising(parts); every != safe || !slices.Equal(parts, uses) {
				t.Errorf("%s: its parts use %v, it uses %v", ast.ShowExpr(e), parts, uses)
			}
		}
	}
}
