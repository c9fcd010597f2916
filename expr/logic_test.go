package expr_test

import (
	"math"
	"slices"
	"testing"

	"tripwire/api"
	"tripwire/check"
)

// failing is nodes with an error of each kind, by that error.
func failing() map[api.Errno]check.Node {
	return map[api.Errno]check.Node{
		api.ErrArg:   column(9, 9),
		api.ErrType:  op("=", val(number(1)), val(text("1"))),
		api.ErrRange: op("neg", val(number(math.MinInt))),
		api.ErrLong:  op("+", val(text("aaaaaaaaaaaaaaaaaaaaaaaa")), val(text("b"))),
	}
}

func TestAndOfEachTwoTruths(t *testing.T) {
	for _, x := range []struct{ a, b, and, or api.Value }{
		{no, no, no, no}, {no, yes, no, yes}, {no, null, no, null},
		{yes, no, no, yes}, {yes, yes, yes, yes}, {yes, null, null, yes},
		{null, no, no, null}, {null, yes, null, yes}, {null, null, null, null},
	} {
		rows := [][]api.Value{{x.a, x.b}}
		for _, kids := range [][]check.Node{{val(x.a), val(x.b)}, {column(0, 0), column(0, 1)}, {op("not", op("not", column(0, 0))), val(x.b)}} {
			wantEval(t, op("and", kids...), rows, x.and, api.OK)
			wantEval(t, op("or", kids...), rows, x.or, api.OK)
		}
	}
}

// An error of the second Kid is met just if the first one's truth doesn't settle it.
func TestTheSecondKid(t *testing.T) {
	for code, bad := range failing() {
		wantEval(t, op("and", val(no), bad), nil, no, api.OK)
		wantEval(t, op("and", val(yes), bad), nil, null, code)
		wantEval(t, op("and", val(null), bad), nil, null, code)
		wantEval(t, op("or", val(yes), bad), nil, yes, api.OK)
		wantEval(t, op("or", val(no), bad), nil, null, code)
		wantEval(t, op("or", val(null), bad), nil, null, code)
		for _, name := range []string{"and", "or"} {
			for _, v := range []api.Value{no, yes, null} {
				wantEval(t, op(name, bad, val(v)), nil, null, code)
			}
		}
	}
}

// What isn't looked at may be anything: however it is formed, nobody asks.
func TestWhatIsNotLookedAt(t *testing.T) {
	within := check.Node{Op: "and", Kids: make([]check.Node, 2)}
	within.Kids[0], within.Kids[1] = within, within
	anything := []check.Node{
		{}, op("no"), op("and"), op("and", val(yes)), op("or", val(yes), val(yes), val(yes)), op("value", val(yes)), column(-1, 0), column(0, -1), column(0, 5),
		op("neg"), op("not", val(number(1))), val(number(1)), val(text("a")), within, {Op: "column", Kids: []check.Node{val(yes)}},
	}
	for _, n := range anything {
		for _, m := range []check.Node{n, op("not", n), op("and", n, n), op("=", val(yes), n)} {
			wantEval(t, op("and", val(no), m), someRows(), no, api.OK)
			wantEval(t, op("or", val(yes), m), someRows(), yes, api.OK)
			wantEval(t, op("or", op("and", val(no), m), op("or", val(yes), m)), someRows(), yes, api.OK)
			wantEval(t, op("and", op("and", val(no), m), m), someRows(), no, api.OK)
			wantEval(t, op("or", op("or", val(yes), m), m), someRows(), yes, api.OK)
			wantEval(t, op("null", op("and", val(no), m)), someRows(), no, api.OK)
		}
	}
}

// Only the ands and ors leave Kids out: what the others make of NULL doesn't hide an error beside it.
func TestAllOthersLookAtBothKids(t *testing.T) {
	for code, bad := range failing() {
		for _, name := range slices.Concat(reckons(), compares()) {
			for _, v := range []api.Value{null, no, yes, number(0), number(1), text("")} {
				wantEval(t, op(name, val(v), bad), nil, null, code)
				wantEval(t, op(name, bad, val(v)), nil, null, code)
			}
		}
		for _, name := range ones() {
			wantEval(t, op(name, bad), nil, null, code)
		}
	}
}

// Kids that have no truth: the first one's error is there whatever the second one is, the second one's only if it counts.
func TestKidsThatAreNoTruths(t *testing.T) {
	for _, name := range []string{"and", "or"} {
		for _, v := range []api.Value{number(0), number(1), text(""), text("TRUE"), {Kind: api.Int, N: 1, S: "a"}, {Kind: -1}, {Kind: 4}} {
			for _, w := range []api.Value{null, no, yes, number(0), text("a")} {
				wantEval(t, op(name, val(v), val(w)), nil, null, api.ErrType)
			}
			for _, bad := range failing() {
				wantEval(t, op(name, val(v), bad), nil, null, api.ErrType) // ahead of what the second one would be
			}
		}
		wantEval(t, op(name, val(null), val(number(1))), nil, null, api.ErrType)
	}
	wantEval(t, op("and", val(yes), val(number(1))), nil, null, api.ErrType)
	wantEval(t, op("and", val(no), val(number(1))), nil, no, api.OK)
	wantEval(t, op("or", val(no), val(text("a"))), nil, null, api.ErrType)
	wantEval(t, op("or", val(yes), val(text("a"))), nil, yes, api.OK)
}

// Of two errors that of the left one counts; of an error within a Kid, and one that the op itself would have, the Kid's.
func TestTheFirstError(t *testing.T) {
	for c, first := range failing() {
		for d, second := range failing() {
			for _, name := range twos() {
				wantEval(t, op(name, first, second), nil, null, c)
				wantEval(t, op(name, op("null", first), second), nil, null, c)
				wantEval(t, op(name, first, op("null", second)), nil, null, c)
				wantEval(t, op(name, op("not", op("null", op("null", first))), second), nil, null, c)
			}
			wantEval(t, op("=", op("+", val(number(1)), first), op("*", second, val(number(2)))), nil, null, c)
			wantEval(t, op("=", op("+", val(number(1)), val(number(1))), op("*", second, first)), nil, null, d)
		}
		for _, v := range []api.Value{yes, number(1), text("a")} {
			for _, name := range slices.Concat(reckons(), compares()) {
				wantEval(t, op(name, val(v), op("null", first)), nil, null, c) // a truth beside a number, but the Kid's comes first
			}
		}
		// Here the op's own ErrType comes first: its Kids are done, and what fails stands further right.
		wantEval(t, op("+", op("+", val(number(1)), val(text("a"))), first), nil, null, api.ErrType)
		wantEval(t, op("and", op("not", val(number(1))), first), nil, null, api.ErrType)
		wantEval(t, op("or", op("<", val(yes), val(number(1))), first), nil, null, api.ErrType)
	}
}

// neither is Bools whose N is neither 0 nor 1: they aren't right, but Bools they are, whose truth is Unknown.
func neither() []api.Value {
	var l []api.Value
	for _, n := range []int{math.MinInt, -1 << 32, -2, -1, 2, 3, 255, 256, 257, 1 << 32, 1<<32 + 1, 1 << 62, math.MaxInt} {
		l = append(l, boolean(n), api.Value{Kind: api.Bool, N: n, S: "a"})
	}
	return l
}

func TestBoolsThatAreNeitherFalseNorTrue(t *testing.T) {
	for _, v := range neither() {
		rows := [][]api.Value{{v}}
		for _, n := range nodes(val(v), column(0, 0)) {
			wantEval(t, n, rows, v, api.OK)
			wantEval(t, op("not", n), rows, null, api.OK)
			wantEval(t, op("not", op("not", n)), rows, null, api.OK)
			wantEval(t, op("null", n), rows, no, api.OK)
			wantEval(t, op("null", op("not", n)), rows, yes, api.OK)
			for _, x := range []struct{ other, and, or api.Value }{{no, no, null}, {yes, null, yes}, {null, null, null}, {v, null, null}} {
				for _, other := range nodes(val(x.other), op("or", val(x.other), val(x.other))) {
					wantEval(t, op("and", n, other), rows, x.and, api.OK)
					wantEval(t, op("and", other, n), rows, x.and, api.OK)
					wantEval(t, op("or", n, other), rows, x.or, api.OK)
					wantEval(t, op("or", other, n), rows, x.or, api.OK)
				}
			}
		}
	}
}

// Unknown settles nothing: the second Kid is looked at, and its error met.
func TestBoolsThatAreNeitherSettleNothing(t *testing.T) {
	for _, v := range neither() {
		for _, name := range []string{"and", "or"} {
			for code, bad := range failing() {
				wantEval(t, op(name, val(v), bad), nil, null, code)
				wantEval(t, op(name, bad, val(v)), nil, null, code)
			}
			for _, w := range []api.Value{number(0), number(1), text("a"), {Kind: 4}} {
				wantEval(t, op(name, val(v), val(w)), nil, null, api.ErrType)
				wantEval(t, op(name, val(w), val(v)), nil, null, api.ErrType)
			}
		}
		// Reckoned or compared they are still wrong.
		wantEval(t, op("neg", val(v)), nil, null, api.ErrArg)
		wantEval(t, op("=", val(v), val(yes)), nil, null, api.ErrArg)
		wantEval(t, op("<>", val(null), val(v)), nil, null, api.ErrArg)
	}
}

func TestAllOfBoolsThatAreNeither(t *testing.T) {
	for _, v := range neither() {
		rows := [][]api.Value{{v}}
		for _, n := range nodes(val(v), column(0, 0), op("not", val(v)), op("and", val(yes), val(v)), op("or", val(v), val(no))) {
			wantAll(t, nodes(n), rows, false, api.OK)
			wantAll(t, nodes(n, val(yes)), rows, false, api.OK)
			wantAll(t, nodes(val(yes), n), rows, false, api.OK)
			wantAll(t, nodes(n, n), rows, false, api.OK)
			for code, bad := range failing() {
				wantAll(t, nodes(n, bad), rows, false, api.OK)
				wantAll(t, nodes(val(yes), n, bad), rows, false, api.OK)
				wantAll(t, nodes(bad, n), rows, false, code)
			}
		}
		wantRow(t, nodes(val(v), op("not", val(v)), column(0, 0)), rows, []api.Value{v, null, v}, api.OK)
	}
}
