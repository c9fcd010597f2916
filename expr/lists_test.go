package expr_test

import (
	"slices"
	"strconv"
	"testing"

	"tripwire/api"
	"tripwire/check"
	"tripwire/expr"
)

func nodes(l ...check.Node) []check.Node { return l }

func TestAllByHand(t *testing.T) {
	rows := someRows()
	wantAll(t, nil, rows, true, api.OK)
	wantAll(t, []check.Node{}, nil, true, api.OK)
	wantAll(t, nodes(val(yes)), nil, true, api.OK)
	wantAll(t, nodes(val(no)), nil, false, api.OK)
	wantAll(t, nodes(val(null)), nil, false, api.OK)
	wantAll(t, nodes(node(t, "a = 7"), node(t, "b = 'x'"), node(t, "f")), rows, true, api.OK)
	wantAll(t, nodes(node(t, "a = 7"), node(t, "a = 8"), node(t, "f")), rows, false, api.OK)
	wantAll(t, nodes(node(t, "a = 7"), node(t, "f"), node(t, "a = g")), rows, false, api.OK)
	wantAll(t, nodes(node(t, "c"), node(t, "a * 9223372036854775807 = 1")), rows, false, api.OK)
	wantAll(t, nodes(node(t, "a * 9223372036854775807 = 1"), node(t, "c")), rows, false, api.ErrRange)
	wantAll(t, nodes(node(t, "f"), node(t, "b + 'aaaaaaaaaaaaaaaaaaaaaaaa' = b")), rows, false, api.ErrLong)
}

// What ends it, at each place, with an error behind it and without: what stands behind isn't looked at.
func TestAllEndsAtTheFirst(t *testing.T) {
	ends := []check.Node{val(no), val(null), op("not", val(yes)), op("=", val(null), val(number(1))), op("and", val(yes), val(null))}
	for count := range 5 {
		ahead := slices.Repeat(nodes(op("=", val(number(1)), val(number(1)))), count)
		wantAll(t, ahead, nil, true, api.OK)
		for _, end := range ends {
			l := append(slices.Clone(ahead), end)
			wantAll(t, l, nil, false, api.OK)
			wantAll(t, append(l, ahead...), nil, false, api.OK)
			for code, bad := range failing() {
				wantAll(t, slices.Concat(l, nodes(bad), ahead), nil, false, api.OK)
				wantAll(t, slices.Concat(ahead, nodes(bad), l), nil, false, code)
				wantAll(t, slices.Concat(nodes(bad), l), nil, false, code)
			}
			wantAll(t, append(slices.Clone(l), check.Node{}), nil, false, api.OK)
			wantAll(t, append(slices.Clone(l), val(number(1))), nil, false, api.OK)
		}
		for code, bad := range failing() {
			wantAll(t, append(slices.Clone(ahead), bad), nil, false, code)
			for _, other := range failing() {
				wantAll(t, append(slices.Clone(ahead), bad, other), nil, false, code)
			}
		}
		for _, v := range []api.Value{number(0), number(1), text(""), text("a")} {
			wantAll(t, append(slices.Clone(ahead), val(v), val(yes)), nil, false, api.ErrType)
			wantAll(t, append(slices.Clone(ahead), val(v), column(9, 9)), nil, false, api.ErrType)
		}
	}
}

// A condition's parts are all true just if the condition is, of safe ones; the parts meet no more errors than it does.
func TestAllOfACondition(t *testing.T) {
	for _, a := range []check.Node{val(yes), val(no), val(null), column(9, 9)} {
		for _, b := range []check.Node{val(yes), val(no), val(null), column(9, 9)} {
			v, e := expr.Eval(op("and", a, b), nil)
			all, f := expr.All(nodes(a, b), nil)
			if all != (e == api.OK && v == yes) || f != api.OK && e == api.OK {
				t.Errorf("%s and %s: %v and %d, all: %v and %d", short(a), short(b), v, e, all, f)
			}
		}
	}
}

func TestRowByHand(t *testing.T) {
	rows := someRows()
	wantRow(t, nil, rows, nil, api.OK)
	wantRow(t, []check.Node{}, nil, nil, api.OK)
	wantRow(t, nodes(node(t, "a + 1")), rows, []api.Value{number(8)}, api.OK)
	wantRow(t, nodes(val(null)), rows, []api.Value{null}, api.OK)
	wantRow(t, nodes(node(t, "d"), node(t, "c"), node(t, "b + 's'"), node(t, "f"), node(t, "a")), rows, []api.Value{number(-3), null, text("xs"), yes, number(7)}, api.OK)
	wantRow(t, nodes(val(no), val(no), val(yes)), nil, []api.Value{no, no, yes}, api.OK) // what isn't true ends nothing
	wantRow(t, nodes(val(no), node(t, "a * 9223372036854775807")), rows, nil, api.ErrRange)
	for i, v := range wrong() {
		wantRow(t, nodes(val(v), column(0, i)), [][]api.Value{wrong()}, []api.Value{v, v}, api.OK)
	}
}

func TestRowEndsAtTheFirstError(t *testing.T) {
	for count := range 5 {
		var ahead []check.Node
		var values []api.Value
		for i := range count {
			ahead, values = append(ahead, val(number(i)), val(text(strconv.Itoa(i)))), append(values, number(i), text(strconv.Itoa(i)))
		}
		wantRow(t, ahead, nil, values, api.OK)
		for code, bad := range failing() {
			wantRow(t, append(slices.Clone(ahead), bad), nil, nil, code)
			wantRow(t, slices.Concat(ahead, nodes(bad), ahead), nil, nil, code)
			wantRow(t, slices.Concat(nodes(bad), ahead), nil, nil, code)
			for _, other := range failing() {
				wantRow(t, slices.Concat(ahead, nodes(bad, other), ahead), nil, nil, code)
			}
		}
	}
}

// Lists may be long, and each node of one may stand as deep as alone.
func TestLongLists(t *testing.T) {
	const count = 200000
	l := slices.Repeat(nodes(op("=", column(0, 0), val(number(1)))), count)
	wantAll(t, l, [][]api.Value{{number(1)}}, true, api.OK)
	wantAll(t, l, [][]api.Value{{number(2)}}, false, api.OK)
	got, e := expr.Row(l, [][]api.Value{{number(1)}})
	if len(got) != count || e != api.OK || !slices.Equal(got, slices.Repeat([]api.Value{yes}, count)) {
		t.Error(len(got), e)
	}
	l[count-1] = column(0, 1)
	wantAll(t, l, [][]api.Value{{number(1)}}, false, api.ErrArg)
	wantRow(t, l, [][]api.Value{{number(1)}}, nil, api.ErrArg)
	n := deep(1<<16, val(yes), func(n check.Node) check.Node { return op("and", val(yes), n) })
	wantAll(t, nodes(n, n, n), nil, true, api.OK)
	wantRow(t, nodes(n, n, n), nil, []api.Value{yes, yes, yes}, api.OK)
}
