package expr_test

import (
	"math"
	"slices"
	"strings"
	"testing"

	"tripwire/api"
	"tripwire/check"
	"tripwire/expr"
)

// noOps are none, though some look like one.
func noOps() []string {
	return []string{
		"", " ", "no", "Value", "value ", " value", "Column", "columns", "NEG", "Not", "NOT", "NULL", "is null", "AND", "Or", "AND ", "++", "--", "+ ", " *", "/", "%",
		"==", "!=", "=<", "=>", "><", "<> ", "<<", "<=>", "&&", "||", "!", "\x00", "+\x00", "\xff", "value column", "neg not", strings.Repeat("and", 3000),
	}
}

func TestNoOps(t *testing.T) {
	for _, name := range noOps() {
		for count := range 4 {
			for _, v := range []api.Value{null, no, yes, number(1), text("a")} {
				kids := slices.Repeat([]check.Node{val(v)}, count)
				n := check.Node{Op: name, V: v, Kids: kids}
				wantEval(t, n, someRows(), null, api.ErrArg)
				wantEval(t, op("null", n), someRows(), null, api.ErrArg)
			}
		}
	}
}

// Each op with each number of Kids but the one that it needs; Kids of all kinds, so that none of them has a say.
func TestNumbersOfKids(t *testing.T) {
	for need, list := range needed() {
		for _, name := range strings.Fields(list) {
			for _, v := range []api.Value{null, no, yes, number(1), text("a")} {
				for _, count := range []int{0, 1, 2, 3, 4, 100} {
					n := check.Node{Op: name, V: v, Kids: slices.Repeat([]check.Node{val(v)}, count)}
					if count != need {
						wantEval(t, n, someRows(), null, api.ErrArg)
						wantEval(t, op("null", n), someRows(), null, api.ErrArg)
						wantEval(t, op("and", val(null), n), someRows(), null, api.ErrArg)
						wantEval(t, op("or", val(yes), n), someRows(), yes, api.OK)
					} else {
						wantTold(t, n, someRows())
					}
				}
			}
		}
	}
}

// An and that hasn't two Kids is none, though its first Kid would settle it; and no Kid is looked at.
func TestTooManyOrTooFewSettleNothing(t *testing.T) {
	for _, name := range twos() {
		for _, v := range []api.Value{no, yes, null} {
			wantEval(t, op(name, val(v)), nil, null, api.ErrArg)
			wantEval(t, op(name, val(v), val(v), val(v)), nil, null, api.ErrArg)
		}
		for _, bad := range failing() {
			wantEval(t, op(name, bad), nil, null, api.ErrArg)
			wantEval(t, op(name, bad, bad, bad), nil, null, api.ErrArg)
		}
	}
	for _, bad := range failing() {
		wantEval(t, op("no", bad), nil, null, api.ErrArg)
		wantEval(t, op("value", bad), nil, null, api.ErrArg)
		wantEval(t, op("column", bad), [][]api.Value{{yes}}, null, api.ErrArg)
		wantEval(t, op("not", bad, bad), nil, null, api.ErrArg)
	}
}

func TestColumnsThatAreNotThere(t *testing.T) {
	rows := [][]api.Value{{yes, no}, {}, nil, {null, number(1), text("a")}}
	for _, v := range []int{math.MinInt, -2, -1, 0, 1, 2, 3, 4, 5, 1 << 32, math.MaxInt} {
		for _, c := range []int{math.MinInt, -2, -1, 0, 1, 2, 3, 4, 5, 1 << 32, math.MaxInt} {
			there := v == 0 && (c == 0 || c == 1) || v == 3 && (c == 0 || c == 1 || c == 2)
			n := column(v, c)
			if there {
				wantEval(t, n, rows, rows[v][c], api.OK)
			} else {
				wantEval(t, n, rows, null, api.ErrArg)
				wantEval(t, op("null", n), rows, null, api.ErrArg)
				wantEval(t, op("=", val(null), n), rows, null, api.ErrArg)
			}
			wantEval(t, n, nil, null, api.ErrArg)
			wantEval(t, n, [][]api.Value{}, null, api.ErrArg)
			wantEval(t, n, [][]api.Value{nil, nil, nil, nil}, null, api.ErrArg)
			wantEval(t, op("and", val(no), n), nil, no, api.OK)
		}
	}
	// What stands in a list's room, behind its end, isn't there.
	full := []api.Value{yes, no, yes}
	lists := [][]api.Value{full, full}
	wantEval(t, column(0, 1), [][]api.Value{full[:1]}, null, api.ErrArg)
	wantEval(t, column(1, 0), lists[:1], null, api.ErrArg)
}

// The zero node has no op.
func TestZeroNode(t *testing.T) {
	wantEval(t, check.Node{}, nil, null, api.ErrArg)
	wantEval(t, check.Node{Kids: []check.Node{}}, someRows(), null, api.ErrArg)
	wantEval(t, check.Node{Op: "value"}, nil, null, api.OK)
	wantEval(t, check.Node{Op: "value", V: yes, Kids: []check.Node{}}, nil, yes, api.OK)
	wantEval(t, check.Node{Op: "column", Kids: make([]check.Node, 0, 3)}, [][]api.Value{{yes}}, yes, api.OK)
	wantEval(t, check.Node{Op: "column"}, [][]api.Value{{yes}}, yes, api.OK)
}

// deep is a node within as many others as make count in all.
func deep(count int, leaf check.Node, around func(check.Node) check.Node) check.Node {
	for range count - 1 {
		leaf = around(leaf)
	}
	return leaf
}

// Nodes may stand within one another as deep as anything is promised.
func TestDeepNodes(t *testing.T) {
	const most = 1 << 16
	not := func(n check.Node) check.Node { return op("not", n) }
	wantEval(t, deep(most, val(yes), not), nil, no, api.OK)
	wantEval(t, deep(most-1, val(yes), not), nil, yes, api.OK)
	wantEval(t, deep(most, val(null), not), nil, null, api.OK)
	wantEval(t, deep(most, column(0, 0), not), [][]api.Value{{no}}, yes, api.OK)
	wantEval(t, deep(most, column(0, 1), not), [][]api.Value{{no}}, null, api.ErrArg)
	wantEval(t, deep(most, val(number(0)), func(n check.Node) check.Node { return op("+", n, val(number(1))) }), nil, number(most-1), api.OK)
	wantEval(t, deep(most, val(number(0)), func(n check.Node) check.Node { return op("-", val(number(1)), n) }), nil, number(1), api.OK)
	wantEval(t, deep(most, val(yes), func(n check.Node) check.Node { return op("and", val(yes), n) }), nil, yes, api.OK)
	wantEval(t, deep(most, val(no), func(n check.Node) check.Node { return op("or", n, val(null)) }), nil, null, api.OK)
	wantEval(t, deep(most, val(number(math.MinInt)), func(n check.Node) check.Node { return op("neg", n) }), nil, null, api.ErrRange)
}

// Of nodes that stand deeper, or within themselves, nothing is promised but that each call ends.
func TestNodesWithinThemselves(t *testing.T) {
	for _, name := range append(twos(), ones()...) {
		for _, first := range []check.Node{val(yes), val(no), val(number(1)), {}} {
			kids := make([]check.Node, 2)
			if slices.Contains(ones(), name) {
				kids = kids[:1]
			}
			for i := range kids {
				kids[i] = op(name, kids...)
				kids[i].Kids = kids
			}
			n := op(name, kids...)
			expr.Eval(n, nil)
			expr.All([]check.Node{n, n}, nil)
			expr.Row([]check.Node{n, n}, nil)
			if kids[0] = first; first.Op != "" && len(kids) == 2 {
				expr.Eval(n, nil)
			}
		}
	}
	expr.Eval(deep(200000, val(yes), func(n check.Node) check.Node { return op("not", n) }), nil)
}
