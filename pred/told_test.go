package pred_test

import (
	"slices"
	"strings"
	"testing"

	"tripwire/api"
	"tripwire/check"
	"tripwire/expr"
	"tripwire/index"
	"tripwire/pred"
	"tripwire/value"
)

// Here the chapter's words are read anew: what a node looks like is a text, and by that the bounds stand in a list.

// shape is a node's op and those of its Kids; a column is one of the variable 0, a value one that isn't NULL.
func shape(n check.Node) string {
	words := []string{n.Op}
	for _, kid := range n.Kids {
		switch {
		case len(kid.Kids) > 0:
			words = append(words, "other")
		case kid.Op == "column" && kid.Var == 0, kid.Op == "value" && kid.V != null:
			words = append(words, kid.Op)
		default:
			words = append(words, "other")
		}
	}
	return strings.Join(words, " ")
}

// ranges is what the shapes that make a test lie between; "v" is the value.
func ranges() map[string]string {
	return map[string]string{
		"= column value":  "[v v]",
		"< column value":  "(NULL v)",
		"<= column value": "(NULL v]",
		"> column value":  "(v",
		">= column value": "[v",
		"= value column":  "[v v]",
		"> value column":  "(NULL v)",
		">= value column": "(NULL v]",
		"< value column":  "(v",
		"<= value column": "[v",
		"null column":     "[NULL NULL]",
	}
}

// bound is one of a range: its value's name, and what stands beside it.
func bound(s, incl string, v api.Value) index.Bound {
	if s == "" {
		return index.Bound{}
	}
	b := index.Bound{Has: true, Incl: strings.Contains(s, incl)}
	if strings.Contains(s, "v") {
		b.V = v
	}
	return b
}

func toldOf(l []check.Node) pred.Cond {
	var c pred.Cond
	for _, n := range l {
		s, ok := ranges()[shape(n)]
		if !ok {
			c.Rest = append(c.Rest, n)
			continue
		}
		lo, hi, _ := strings.Cut(s, " ")
		var x pred.Test
		var v api.Value
		for _, kid := range n.Kids {
			if kid.Op == "column" {
				x.Col = kid.Col
			} else {
				v = kid.V
			}
		}
		x.Lo, x.Hi = bound(lo, "[", v), bound(hi, "]", v)
		c.Tests = append(c.Tests, x)
	}
	return c
}

// ahead tells whether a stands ahead of b in layer 9's order.
func ahead(a, b api.Value) bool {
	if a.Kind != b.Kind {
		return a.Kind < b.Kind
	}
	if a.N != b.N {
		return a.N < b.N
	}
	return a.S < b.S
}

// toldMeets goes through all, whatever it meets.
func toldMeets(c pred.Cond, r []api.Value) bool {
	met := true
	for _, x := range c.Tests {
		there := false
		for i, v := range r {
			if i == x.Col {
				there = true
				if x.Lo.Has && (ahead(v, x.Lo.V) || v == x.Lo.V && !x.Lo.Incl) || x.Hi.Has && (ahead(x.Hi.V, v) || v == x.Hi.V && !x.Hi.Incl) {
					met = false
				}
			}
		}
		met = met && there
	}
	for _, n := range c.Rest {
		v, e := expr.Eval(n, [][]api.Value{r})
		truth, f := value.Truth(v)
		if e != api.OK || f != api.OK || truth != api.True {
			met = false
		}
	}
	return met
}

// wantToldOf holds Of against the chapter read anew.
func wantToldOf(t *testing.T, l []check.Node) {
	t.Helper()
	got, want := pred.Of(l), toldOf(l)
	if !slices.Equal(got.Tests, want.Tests) || !sameNodes(got.Rest, want.Rest) {
		t.Errorf("%s makes %s, not %s", short(l), short(got), short(want))
	}
}

// sameNodes tells whether nodes are the same in all their fields; an empty list and no list are one.
func sameNodes(a, b []check.Node) bool {
	return slices.EqualFunc(a, b, func(m, n check.Node) bool {
		return m.Op == n.Op && m.V == n.V && m.Var == n.Var && m.Col == n.Col && sameNodes(m.Kids, n.Kids)
	})
}

// wantToldMeets holds Meets against the chapter read anew, also by an Index.
func wantToldMeets(t *testing.T, c pred.Cond, r []api.Value) {
	t.Helper()
	want := toldMeets(c, r)
	if got := pred.Meets(c, r); got != want {
		t.Errorf("%s meets %s: %v", short(r), short(c), got)
	}
	x := pred.New()
	if e := x.Add(7, c); e != api.OK || slices.Equal(x.Match(r), []int{7}) != want {
		t.Errorf("%s is matched by %s: %v, %d", short(r), short(c), x.Match(r), e)
	}
}
