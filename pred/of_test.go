package pred_test

import (
	"fmt"
	"math"
	"slices"
	"strings"
	"testing"

	"tripwire/check"
	"tripwire/pred"
	"tripwire/value"
)

func columnNumbers() []int { return []int{0, 1, 5, 6, 1 << 32, math.MaxInt, -1, math.MinInt} }

// Each comparison of a column and each value other than NULL, and the other way round; and null of a column.
func TestOfEachComparison(t *testing.T) {
	lists := map[string]string{"=": "[v, v]", "<": "(NULL, v)", "<=": "(NULL, v]", ">": "(v, ..", ">=": "[v, .."}
	turned := map[string]string{"=": "=", "<": ">", "<=": ">=", ">": "<", ">=": "<="}
	for _, c := range columnNumbers() {
		for name, list := range lists {
			for _, v := range inOrder() {
				l, back := nodes(op(name, column(c), val(v))), nodes(op(turned[name], val(v), column(c)))
				wantToldOf(t, l)
				wantToldOf(t, back)
				if v == null {
					wantOf(t, l, "", 0)
					wantOf(t, back, "", 0)
					continue
				}
				want := fmt.Sprint(c, " ", strings.ReplaceAll(list, "v", value.Show(v)))
				wantOf(t, l, want)
				wantOf(t, back, want)
			}
		}
		wantOf(t, nodes(op("null", column(c))), fmt.Sprint(c, " [NULL, NULL]"))
	}
}

// What is wanted of a bound's fields, one by one: those that mean nothing are zero.
func TestOfIsExact(t *testing.T) {
	three := number(3)
	at, beside, behindNull, none := bound("[v", "[", three), bound("(v", "[", three), bound("(NULL", "[", three), bound("", "[", three)
	if at.V != three || !at.Has || !at.Incl || beside.V != three || !beside.Has || beside.Incl || behindNull.V != null || !behindNull.Has || behindNull.Incl || none.Has {
		t.Fatal(at, beside, behindNull, none)
	}
	for name, want := range map[string]pred.Test{
		"=":  {Col: 2, Lo: at, Hi: at},
		"<":  {Col: 2, Lo: behindNull, Hi: beside},
		"<=": {Col: 2, Lo: behindNull, Hi: at},
		">":  {Col: 2, Lo: beside},
		">=": {Col: 2, Lo: at},
	} {
		c := pred.Of(nodes(op(name, column(2), val(three))))
		if !slices.Equal(c.Tests, []pred.Test{want}) || c.Rest != nil {
			t.Errorf("%s: %+v, not %+v", name, c, want)
		}
	}
	c := pred.Of(nodes(op("null", column(2))))
	if want := bound("[NULL", "[", three); !slices.Equal(c.Tests, []pred.Test{{Col: 2, Lo: want, Hi: want}}) || c.Rest != nil {
		t.Errorf("null: %+v", c)
	}
}

func TestOfNoNodes(t *testing.T) {
	for _, l := range [][]check.Node{nil, {}, make([]check.Node, 0, 4)} {
		if c := pred.Of(l); c.Tests != nil || c.Rest != nil {
			t.Errorf("%+v of no nodes", c)
		}
	}
}

// otherNodes is nodes of all kinds that are neither a column of the variable 0 nor a value that isn't NULL.
func otherNodes() []check.Node {
	return nodes(
		val(null), columnOf(1, 0), columnOf(-1, 0), columnOf(math.MaxInt, 0), columnOf(1<<32, 0), check.Node{}, op(""), op("Column"), op("Value"), op("column "), op("NULL"), op("null"),
		check.Node{Op: "constant", V: number(3)}, check.Node{Op: "=", V: number(3)}, op("neg", val(number(3))), op("not", val(yes)), op("null", column(0)), op("+", column(0), val(number(1))),
		op("=", column(0), val(number(3))), op("and", column(0), column(0)), op("or", val(yes), val(no)),
		check.Node{Op: "column", Kids: nodes(column(0))}, check.Node{Op: "column", Kids: nodes(val(yes))}, check.Node{Op: "value", V: yes, Kids: nodes(val(yes))}, check.Node{Op: "value", V: yes, Kids: nodes(columnOf(1, 0))},
	)
}

// With the other side a column, a value or any other node, there is a test only of a column and a value.
func TestOfOtherNodes(t *testing.T) {
	for _, name := range compares() {
		for _, n := range otherNodes() {
			for _, m := range append(otherNodes(), column(0), column(3), val(number(3)), val(yes)) {
				wantOf(t, nodes(op(name, n, m)), "", 0)
				wantOf(t, nodes(op(name, m, n)), "", 0)
			}
		}
		for _, m := range nodes(column(0), column(3), val(number(3)), val(yes)) {
			wantOf(t, nodes(op(name, m, m)), "", 0)
		}
		wantOf(t, nodes(op(name, column(0), column(1))), "", 0)
		wantOf(t, nodes(op(name, val(number(3)), val(number(4)))), "", 0)
	}
	for _, n := range append(otherNodes(), val(number(3)), val(yes)) {
		wantOf(t, nodes(op("null", n)), "", 0)
	}
	for _, n := range nodes(check.Node{}, column(0), columnOf(1, 0), val(null), val(yes), val(number(3))) {
		wantOf(t, nodes(n), "", 0)
	}
}

// anyOps are all ops, and others that no expression has, but the comparisons and null.
func anyOps() []string {
	return []string{"value", "column", "neg", "not", "+", "-", "*", "and", "or", "", " ", "no", "==", "!=", "=<", "=>", "><", "<>", "<> ", " <", "< ", "<<", "NULL", "Null", "is null", "null ", "\x00", "=\x00", "\xff", strings.Repeat("<", 3000)}
}

func TestOfOtherOps(t *testing.T) {
	a, v := column(0), val(number(3))
	for _, name := range anyOps() {
		for _, kids := range [][]check.Node{nil, {a}, {v}, {a, v}, {v, a}, {a, a}, {v, v}, {a, v, a}, {v, a, v}} {
			wantOf(t, nodes(op(name, kids...)), "", 0)
		}
	}
}

func TestOfNumbersOfKids(t *testing.T) {
	a, v := column(0), val(number(3))
	for _, name := range compares() {
		for _, kids := range [][]check.Node{nil, {}, {a}, {v}, {a, v, v}, {v, a, v}, {a, v, a}, {a, v, {}}, {{}, a, v}, {v, a, {}}, {a, v, a, v}, slices.Repeat(nodes(a, v), 50)} {
			wantOf(t, nodes(op(name, kids...)), "", 0)
		}
	}
	for _, kids := range [][]check.Node{nil, {}, {a, a}, {a, v}, {v, a}, {a, {}}, {{}, a}, {a, a, a}, slices.Repeat(nodes(a), 50)} {
		wantOf(t, nodes(op("null", kids...)), "", 0)
	}
}

// What an op doesn't use has no say, and isn't lost where a node stays.
func TestOfFieldsThatMeanNothing(t *testing.T) {
	a := check.Node{Op: "column", Col: 2, V: number(9), Kids: []check.Node{}}
	v := check.Node{Op: "value", V: number(3), Var: 4, Col: 5, Kids: make([]check.Node, 0, 3)}
	wantOf(t, nodes(check.Node{Op: "<", V: number(8), Var: 6, Col: 7, Kids: nodes(a, v)}), "2 (NULL, 3)")
	wantOf(t, nodes(check.Node{Op: "<", V: null, Var: -1, Col: -1, Kids: nodes(v, a)}), "2 (3, ..")
	wantOf(t, nodes(check.Node{Op: "null", V: number(8), Var: 6, Col: 7, Kids: nodes(a)}), "2 [NULL, NULL]")
	wantOf(t, nodes(check.Node{Op: "<>", V: text("s"), Var: 6, Col: 7, Kids: nodes(a, v)}), "", 0)
	wantToldOf(t, nodes(check.Node{Op: "<>", V: text("s"), Var: 6, Col: 7, Kids: nodes(a, v)}))
}

// Tests and the rest, each in their order, whichever of eight nodes stand where.
func TestOfOrders(t *testing.T) {
	tests := nodes(op("=", column(0), val(number(3))), op("null", column(0)), op("<", val(text("x")), column(1)), op("=", column(0), val(number(3))))
	rests := nodes(column(2), op("<>", column(0), val(number(3))), op("or", column(2), val(yes)), column(2))
	for bits := range 256 {
		var l []check.Node
		var want pred.Cond
		for i := range 8 {
			at := (i + bits/16) % 4
			if bits>>i&1 == 1 {
				l = append(l, tests[at])
				want.Tests = append(want.Tests, pred.Of(nodes(tests[at])).Tests...)
			} else {
				l = append(l, rests[at])
				want.Rest = append(want.Rest, rests[at])
			}
		}
		if got := pred.Of(l); !slices.Equal(got.Tests, want.Tests) || !sameNodes(got.Rest, want.Rest) {
			t.Errorf("%s makes %s, not %s", short(l), short(got), short(want))
		}
		wantToldOf(t, l)
	}
}

// A long list, of which nothing is put together or left out.
func TestOfManyNodes(t *testing.T) {
	var l []check.Node
	for i := range 3000 {
		l = append(l, op(compares()[i%6], column(i%4), val(number(i/7))))
	}
	c := pred.Of(l)
	if len(c.Tests) != 2500 || len(c.Rest) != 500 {
		t.Error(len(c.Tests), len(c.Rest))
	}
	wantToldOf(t, l)
	wantToldOf(t, slices.Repeat(nodes(op("=", column(0), val(number(1)))), 100))
}
