package expr_test

import (
	"slices"
	"strings"
	"testing"

	"tripwire/api"
	"tripwire/check"
	"tripwire/expr"
	"tripwire/value"
)

// Here the chapter's words are read anew: a node becomes a list of steps, of which an and, and an or, may leave some out;
// they are done one behind the other over a stack.

// step is done by its name: an op; or "truth": of what is on top; or "skip": go to the step `to`, if the truth on top
// settles it; or "stop".
type step struct {
	name string
	n    check.Node
	to   int
}

// needed is the ops by how many Kids they need.
func needed() []string {
	return []string{"value column", "neg not null", "+ - * = <> < <= > >= and or"}
}

func formed(n check.Node) bool {
	return len(n.Kids) <= 2 && slices.Contains(strings.Fields(needed()[len(n.Kids)]), n.Op)
}

// laid puts a node's steps behind others.
func laid(n check.Node, to []step) []step {
	if !formed(n) {
		return append(to, step{name: "stop"})
	}
	at := -1
	for i, kid := range n.Kids {
		to = laid(kid, to)
		if n.Op == "and" || n.Op == "or" {
			to = append(to, step{name: "truth"})
			if i == 0 {
				at = len(to)
				to = append(to, step{name: "skip", n: n})
			}
		}
	}
	to = append(to, step{name: n.Op, n: n})
	if at >= 0 {
		to[at].to = len(to)
	}
	return to
}

// machine is a stack, and the rows.
type machine struct {
	stack []api.Value
	rows  [][]api.Value
}

func (m *machine) pop() api.Value {
	v := m.stack[len(m.stack)-1]
	m.stack = m.stack[:len(m.stack)-1]
	return v
}

func told(n check.Node, rows [][]api.Value) (api.Value, api.Errno) {
	m := machine{rows: rows}
	l := laid(n, nil)
	for at := 0; at < len(l); at++ {
		s := l[at]
		if s.name == "skip" {
			if top := m.stack[len(m.stack)-1]; s.n.Op == "and" && top == no || s.n.Op == "or" && top == yes {
				at = s.to - 1
			}
			continue
		}
		v, e := m.do(s)
		if e != api.OK {
			return api.Value{}, e
		}
		m.stack = append(m.stack, v)
	}
	return m.pop(), api.OK
}

// do is what one step puts onto the stack.
func (m *machine) do(s step) (api.Value, api.Errno) {
	switch s.name {
	case "stop":
		return api.Value{}, api.ErrArg
	case "value":
		return s.n.V, api.OK
	case "column":
		for i, row := range m.rows {
			for k, v := range row {
				if i == s.n.Var && k == s.n.Col {
					return v, api.OK
				}
			}
		}
		return api.Value{}, api.ErrArg
	case "truth":
		t, e := truthTold(m.pop())
		return value.Of(t), e
	case "null":
		v := m.pop()
		return boolean(map[bool]int{true: 1}[v.Kind == 0 && v.N == 0 && v.S == ""]), api.OK
	case "not":
		t, e := truthTold(m.pop())
		return []api.Value{yes, no, null}[t], e
	case "neg":
		return value.Reckon("-", number(0), m.pop())
	}
	return m.two(s.name)
}

func (m *machine) two(name string) (api.Value, api.Errno) {
	b := m.pop()
	a := m.pop()
	switch name {
	case "and", "or":
		// Of truths the lesser one in the order FALSE, NULL, TRUE is the and's, the greater one the or's.
		order := []api.Value{no, null, yes}
		at := func(v api.Value) int {
			for i, w := range order {
				if v == w {
					return i
				}
			}
			return -1
		}
		if name == "and" {
			return order[min(at(a), at(b))], api.OK
		}
		return order[max(at(a), at(b))], api.OK
	case "+", "-", "*":
		return value.Reckon(name, a, b)
	}
	t, e := value.Holds(name, a, b)
	return []api.Value{no, yes, null}[t], e
}

// truthTold is a value's truth by layer 2's words: the Kind tells which values have one, and of a Bool what is neither
// False nor True counts as Unknown.
func truthTold(v api.Value) (int, api.Errno) {
	switch {
	case v.Kind == api.Bool && (v.N == api.False || v.N == api.True):
		return v.N, api.OK
	case v.Kind == api.Bool || v.Kind == api.Null:
		return api.Unknown, api.OK
	}
	return 0, api.ErrType
}

// toldAll and toldRow tell node by node.
func toldAll(l []check.Node, rows [][]api.Value) (bool, api.Errno) {
	for _, n := range l {
		v, e := told(n, rows)
		if e != api.OK {
			return false, e
		}
		if truth, e := truthTold(v); e != api.OK || truth != api.True {
			return false, e
		}
	}
	return true, api.OK
}

func toldRow(l []check.Node, rows [][]api.Value) ([]api.Value, api.Errno) {
	var row []api.Value
	for _, n := range l {
		v, e := told(n, rows)
		if e != api.OK {
			return nil, e
		}
		row = append(row, v)
	}
	return row, api.OK
}

// wantTold holds Eval against the chapter read anew, wantToldLists All and Row.
func wantTold(t *testing.T, n check.Node, rows [][]api.Value) {
	t.Helper()
	want, code := told(n, rows)
	if v, e := expr.Eval(n, rows); v != want || e != code {
		t.Errorf("%s over %s: %+v and %d, not %+v and %d", short(n), short(rows), v, e, want, code)
	}
}

func wantToldLists(t *testing.T, l []check.Node, rows [][]api.Value) {
	t.Helper()
	all, code := toldAll(l, rows)
	wantAll(t, l, rows, all, code)
	row, code := toldRow(l, rows)
	wantRow(t, l, rows, row, code)
}
