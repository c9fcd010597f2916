package pred_test

import (
	"math"
	"slices"
	"testing"

	"tripwire/api"
	"tripwire/check"
	"tripwire/index"
	"tripwire/pred"
)

func wantMeets(t *testing.T, c pred.Cond, r []api.Value, want bool) {
	t.Helper()
	if pred.Meets(c, r) != want {
		t.Errorf("%s meets %s: %v", short(r), short(c), !want)
	}
	wantToldMeets(t, c, r)
}

func tests(l ...pred.Test) pred.Cond { return pred.Cond{Tests: l} }

func rest(l ...check.Node) pred.Cond { return pred.Cond{Rest: l} }

// bounded is a bound, and where its value stands in inOrder.
type bounded struct {
	index.Bound
	at int
}

// allBounds is all bounds of the values of inOrder, and some that are none, whatever else stands in them.
func allBounds() []bounded {
	l := []bounded{{}, {Bound: index.Bound{Incl: true}}}
	for i, v := range inOrder() {
		l = append(l, bounded{index.Bound{Has: true, V: v}, i}, bounded{index.Bound{Has: true, Incl: true, V: v}, i})
		if i%9 == 0 {
			l = append(l, bounded{index.Bound{V: v}, i}, bounded{index.Bound{Incl: true, V: v}, i})
		}
	}
	return l
}

// Each value, right or not, between each two bounds: the places in a list that was put in order by hand tell it.
func TestMeetsEachTwoBounds(t *testing.T) {
	met := 0
	for _, lo := range allBounds() {
		for _, hi := range allBounds() {
			c := tests(pred.Test{Col: 1, Lo: lo.Bound, Hi: hi.Bound})
			for i, v := range inOrder() {
				above := !lo.Has || i > lo.at || i == lo.at && lo.Incl
				below := !hi.Has || i < hi.at || i == hi.at && hi.Incl
				if got := pred.Meets(c, row(null, v)); got != (above && below) {
					t.Fatalf("%+v between %+v and %+v: %v", v, lo.Bound, hi.Bound, got)
				}
				if above && below {
					met++
				}
			}
		}
	}
	if met < 50000 {
		t.Error(met)
	}
}

// What Of makes of each comparison is met just by what stands so to the value, NULL by null of a column alone.
func TestMeetsEachComparison(t *testing.T) {
	stands := map[string]func(place int) bool{
		"=":  func(place int) bool { return place == 0 },
		"<":  func(place int) bool { return place < 0 },
		"<=": func(place int) bool { return place <= 0 },
		">":  func(place int) bool { return place > 0 },
		">=": func(place int) bool { return place >= 0 },
	}
	turned := map[string]string{"=": "=", "<": ">", "<=": ">=", ">": "<", ">=": "<="}
	l := rightOnes()
	for name, f := range stands {
		for k, v := range l[1:] {
			for i, w := range l {
				want := i > 0 && f(i-(k+1))
				wantMeets(t, pred.Of(nodes(op(name, column(0), val(v)))), row(w), want)
				wantMeets(t, pred.Of(nodes(op(turned[name], val(v), column(0)))), row(w), want)
			}
		}
		for _, w := range l {
			wantMeets(t, pred.Of(nodes(op(name, column(0), val(null)))), row(w), false)
			wantMeets(t, pred.Of(nodes(op(name, val(null), column(0)))), row(w), false)
		}
	}
	for _, w := range inOrder() {
		wantMeets(t, pred.Of(nodes(op("null", column(0)))), row(w), w == null)
	}
}

func TestMeetsColumnsThatAreNotThere(t *testing.T) {
	for many := range 5 {
		r := slices.Repeat(row(number(3)), many)
		for _, c := range []int{math.MinInt, -1 << 32, -2, -1, 0, 1, 2, 3, 4, 5, 1 << 32, math.MaxInt} {
			there := c >= 0 && c < many
			at := bound("[v", "[", number(3))
			wantMeets(t, tests(pred.Test{Col: c}), r, there)
			wantMeets(t, tests(pred.Test{Col: c, Lo: at}), r, there)
			wantMeets(t, tests(pred.Test{Col: c, Hi: at}), r, there)
			wantMeets(t, tests(pred.Test{Col: c, Lo: at, Hi: at}), r, there)
			for _, n := range nodes(op("=", column(c), val(number(3))), op(">=", val(number(3)), column(c))) {
				wantMeets(t, pred.Of(nodes(n)), r, there)
			}
			wantMeets(t, pred.Of(nodes(op("null", column(c)))), r, false)
			wantMeets(t, rest(op("=", column(c), val(number(3)))), r, there)
		}
	}
	// What stands in a list's room, behind its end, isn't there.
	full := row(number(3), number(3), number(3))
	wantMeets(t, tests(pred.Test{Col: 2}), full[:2], false)
	wantMeets(t, tests(pred.Test{Col: 1}), full[:2], true)
	wantMeets(t, tests(pred.Test{Col: 0}), nil, false)
}

func TestMeetsNothingAsked(t *testing.T) {
	for _, r := range [][]api.Value{nil, {}, row(null), row(number(3), text("x"))} {
		wantMeets(t, pred.Cond{}, r, true)
		wantMeets(t, pred.Cond{Tests: []pred.Test{}, Rest: []check.Node{}}, r, true)
		wantMeets(t, pred.Of(nil), r, true)
		wantMeets(t, rest(val(yes)), r, true)
	}
}

// lasting is nodes that aren't true of any row: false, unknown, or with each error.
func lasting() []check.Node {
	return nodes(val(no), val(null), op("not", val(yes)), op("=", val(null), val(null)), val(boolean(2)), val(boolean(-1)),
		val(number(1)), val(text("a")), val(api.Value{Kind: 4}), op("=", val(number(1)), val(text("a"))),
		op("=", op("*", val(number(math.MaxInt)), val(number(2))), val(number(1))), op("=", op("+", val(text("aaaaaaaaaaaaaaaaaaaaaaaa")), val(text("a"))), val(text("a"))),
		check.Node{}, op("no"), op("and", val(yes)), op("=", val(yes), val(yes), val(yes)), columnOf(1, 0), columnOf(-1, 0), column(-1), column(9), op("null", columnOf(1, 0)), op("not", column(9)))
}

// One test of several, or one of the rest, that isn't met, at each place.
func TestMeetsAllOfIt(t *testing.T) {
	r := row(number(3), text("x"), yes)
	good := []pred.Test{{Col: 0, Lo: bound("[v", "[", number(3))}, {Col: 1, Hi: bound("v)", "]", text("y"))}, {Col: 2}, {Col: 0}}
	bad := []pred.Test{{Col: 0, Lo: bound("(v", "[", number(3))}, {Col: 1, Hi: bound("v)", "]", text("x"))}, {Col: 3}, {Col: -1}, {Col: 2, Lo: bound("[v", "[", yes), Hi: bound("v]", "]", no)}}
	truths := nodes(column(2), op("=", column(0), val(number(3))), val(yes), op("or", val(yes), columnOf(1, 0)))
	for many := range 5 {
		for more := range 5 {
			c := pred.Cond{Tests: good[:many], Rest: truths[:more]}
			wantMeets(t, c, r, true)
			for at := range many + 1 {
				for _, x := range bad {
					wantMeets(t, pred.Cond{Tests: slices.Insert(slices.Clone(c.Tests), at, x), Rest: c.Rest}, r, false)
				}
			}
			for at := range more + 1 {
				for _, n := range lasting() {
					wantMeets(t, pred.Cond{Tests: c.Tests, Rest: slices.Insert(slices.Clone(c.Rest), at, n)}, r, false)
				}
			}
		}
	}
}

// Tests stand as they are, though nobody who is asked by nodes would ask so: of one column, of none, the bounds turned round.
func TestMeetsConditionsThatOfDidNotMake(t *testing.T) {
	two, three, four := number(2), number(3), number(4)
	for _, x := range []struct {
		v    api.Value
		want []bool
	}{{null, []bool{false, true, false, true, false}}, {two, []bool{false, true, false, true, false}}, {three, []bool{false, true, true, true, true}}, {four, []bool{false, true, false, false, false}}, {text("x"), []bool{false, true, false, false, false}}} {
		for i, c := range []pred.Cond{
			tests(pred.Test{Lo: bound("[v", "[", four), Hi: bound("v]", "]", two)}),
			tests(pred.Test{}),
			tests(pred.Test{Lo: bound("[v", "[", three)}, pred.Test{Hi: bound("v]", "]", three)}),
			tests(pred.Test{Hi: bound("v)", "]", four)}),
			{Tests: []pred.Test{{Hi: bound("v]", "]", three)}}, Rest: nodes(op(">", column(0), val(two)))},
		} {
			wantMeets(t, c, row(x.v), x.want[i])
		}
	}
	// A comparison that might be a test counts as layer 16 does, if it stands in the rest.
	wantMeets(t, rest(op("<", column(0), val(text("x")))), row(three), false)
	wantMeets(t, pred.Of(nodes(op("<", column(0), val(text("x"))))), row(three), true)
	wantMeets(t, rest(op("=", column(0), val(boolean(2)))), row(boolean(2)), false)
	wantMeets(t, pred.Of(nodes(op("=", column(0), val(boolean(2))))), row(boolean(2)), true)
	wantMeets(t, rest(op("null", column(0))), row(null), true)
}

// Nodes may stand within one another as deep as anything is promised, and copies of them are whole.
func TestMeetsDeepNodes(t *testing.T) {
	const most = 1 << 16
	for _, v := range []api.Value{yes, no} {
		n := column(0)
		for range most - 2 {
			n = op("not", n)
		}
		for range 2 { // most - 1 nodes, then most
			wantMeets(t, pred.Of(nodes(n)), row(v), v == yes)
			wantMeets(t, pred.Of(nodes(op("not", column(0)), n)), row(v), false)
			x := pred.New()
			x.Add(1, rest(n))
			if got := x.Match(row(v)); slices.Equal(got, []int{1}) != (v == yes) {
				t.Error(v, got)
			}
			n = op("and", n, val(yes))
		}
	}
}

// Of nodes that stand deeper, or within themselves, nothing is promised but that each call ends.
func TestNodesWithinThemselves(t *testing.T) {
	deep := val(yes)
	for range 200000 {
		deep = op("not", deep)
	}
	l := nodes(deep)
	for many := 1; many <= 3; many++ {
		for first := range many {
			kids := slices.Repeat(nodes(val(yes)), many)
			for i := first; i < many; i++ {
				kids[i] = op([]string{"not", "and", "="}[many-1], kids...)
				kids[i].Kids = kids
			}
			l = append(l, kids[many-1], op("=", column(0), kids[many-1]), op("null", kids[many-1]))
		}
	}
	for _, n := range append(l, op("or", l...)) {
		c := pred.Of(nodes(n, n))
		pred.Meets(c, row(yes))
		pred.Meets(rest(n), row(yes))
		x := pred.New()
		if e := x.Add(1, rest(n, n)); e != api.OK || x.Len() != 1 {
			t.Error(e, x.Len())
		}
		x.Match(row(yes))
		if e := x.Cut(1); e != api.OK {
			t.Error(e)
		}
	}
	// Beside one of those others stay what they are.
	c := pred.Of(nodes(l[1], op("=", column(0), val(yes)), column(1)))
	if len(c.Tests) != 1 || len(c.Rest) != 2 || !sameNodes(c.Rest[1:], nodes(column(1))) || pred.Meets(c, row(yes, yes)) {
		t.Errorf("%d tests, %d of the rest", len(c.Tests), len(c.Rest))
	}
}
