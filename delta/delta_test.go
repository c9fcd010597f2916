package delta_test

import (
	"cmp"
	"fmt"
	"math"
	"slices"
	"strings"
	"testing"

	"tripwire/api"
	"tripwire/delta"
)

func number(n int) api.Value { return api.Value{Kind: api.Int, N: n} }

func text(s string) api.Value { return api.Value{Kind: api.Text, S: s} }

// values is a list of numbers.
func values(l ...int) []api.Value {
	var v []api.Value
	for _, n := range l {
		v = append(v, number(n))
	}
	return v
}

// inserted, deleted and updated are changes of rows of one number.
func inserted(table string, id, n int) delta.Change {
	return delta.Change{Table: table, ID: id, New: values(n)}
}

func deleted(table string, id, n int) delta.Change {
	return delta.Change{Table: table, ID: id, Old: values(n)}
}

func updated(table string, id, was, is int) delta.Change {
	return delta.Change{Table: table, ID: id, Old: values(was), New: values(is)}
}

// someLists are lists of values that differ, each from all others: in one value, in one part of a value, in length, in order; among them values that aren't right.
func someLists() [][]api.Value {
	one := []api.Value{
		{}, {Kind: api.Bool}, {Kind: api.Bool, N: 1}, number(0), number(1), number(-1), number(math.MinInt), number(math.MaxInt), text(""), text("a"),
		text("a\x00"), text("b"), text(strings.Repeat("x", 24)),
		{N: 1}, {S: "a"}, {Kind: api.Bool, N: 2}, {Kind: api.Int, S: "a"}, {Kind: api.Int, N: 1, S: "a"}, {Kind: api.Text, N: 1}, {Kind: api.Text, N: 1, S: "a"},
		{Kind: -1}, {Kind: 4}, {Kind: 258}, {Kind: math.MinInt}, {Kind: math.MaxInt, N: 1, S: "a"}, text(strings.Repeat("x", 25)),
	}
	l := [][]api.Value{nil, values(1, 2), values(2, 1), values(1, 1), values(1, 2, 3), values(1, 2, 4), values(0, 2, 3), values(1, 0, 3), values(1, 2, 3, 4, 5, 6, 7, 8),
		{{}, {}}, {{}, {}, {}}, {number(1), {}}, {{}, number(1)}, {number(1), text("a")}, {text("a"), number(1)}}
	for _, v := range one {
		l = append(l, []api.Value{v})
	}
	return l
}

// alike tells whether two lists have the same values: nothing but what stands in them counts.
func alike(a, b []api.Value) bool {
	if len(a) != len(b) {
		return false
	}
	for i := range a {
		if a[i].Kind != b[i].Kind || a[i].N != b[i].N || a[i].S != b[i].S {
			return false
		}
	}
	return true
}

func sameChange(a, b delta.Change) bool {
	return a.Table == b.Table && a.ID == b.ID && alike(a.Old, b.Old) && alike(a.New, b.New)
}

func same(a, b []delta.Change) bool { return slices.EqualFunc(a, b, sameChange) }

func want(t *testing.T, what string, got, want []delta.Change) {
	t.Helper()
	if !same(got, want) {
		t.Fatalf("%s: %s, not %s", what, told(got), told(want))
	}
}

// told is changes as text, of no more than is looked at.
func told(l []delta.Change) string {
	if len(l) > 12 {
		return fmt.Sprintf("%s and %d more", told(l[:12]), len(l)-12)
	}
	s := []string{}
	for _, c := range l {
		s = append(s, fmt.Sprintf("%q %d %v>%v", c.Table, c.ID, c.Old, c.New))
	}
	return "[" + strings.Join(s, "; ") + "]"
}

// kind is the chapter's words on what a change does.
func kind(c delta.Change) int {
	there, stays := len(c.Old) != 0, len(c.New) != 0
	if there && stays {
		if alike(c.Old, c.New) {
			return 0
		}
		return 3
	}
	if stays {
		return 1
	}
	if there {
		return 2
	}
	return 0
}

// net is the chapter's words on the net effect: each row is looked for among all changes.
func net(l []delta.Change) []delta.Change {
	var all []delta.Change
	for i, c := range l {
		is := func(d delta.Change) bool { return d.Table == c.Table && d.ID == c.ID }
		if slices.IndexFunc(l, is) != i {
			continue
		}
		for _, d := range l[i:] {
			if is(d) {
				c.New = d.New
			}
		}
		if kind(c) != 0 {
			all = append(all, c)
		}
	}
	slices.SortFunc(all, byRow)
	return all
}

func byRow(a, b delta.Change) int {
	return cmp.Or(cmp.Compare(a.Table, b.Table), cmp.Compare(a.ID, b.ID))
}

func TestTheKindsHaveTheirNumbers(t *testing.T) {
	if delta.Inserts != 1 || delta.Deletes != 2 || delta.Updates != 3 {
		t.Error(delta.Inserts, delta.Deletes, delta.Updates)
	}
}

func TestKindOfEmptyLists(t *testing.T) {
	empty := [][]api.Value{nil, {}, make([]api.Value, 0, 5), values(1, 2)[:0], values(1, 2)[2:]}
	for _, a := range empty {
		for _, b := range empty {
			if k := delta.Kind(delta.Change{Table: "t", ID: 1, Old: a, New: b}); k != 0 {
				t.Error(a, b, k)
			}
		}
		for _, l := range someLists()[1:] {
			if k := delta.Kind(delta.Change{Table: "t", ID: 1, Old: a, New: l}); k != delta.Inserts {
				t.Error(a, l, k)
			}
			if k := delta.Kind(delta.Change{Table: "t", ID: 1, Old: l, New: a}); k != delta.Deletes {
				t.Error(l, a, k)
			}
		}
	}
	if k := delta.Kind(delta.Change{}); k != 0 {
		t.Error(k)
	}
}

func TestKindOfListsThatDiffer(t *testing.T) {
	l := someLists()[1:]
	for i, a := range l {
		for j, b := range l {
			k := delta.Kind(delta.Change{Table: "t", ID: 1, Old: a, New: slices.Clone(b)})
			if i == j && k != 0 || i != j && k != delta.Updates {
				t.Error(a, b, k)
			}
		}
	}
}

func TestKindAsksNothingOfTheName(t *testing.T) {
	for _, table := range someTables() {
		for _, id := range someIDs() {
			for i, c := range []delta.Change{{}, inserted("", 0, 1), deleted("", 0, 1), updated("", 0, 1, 2), updated("", 0, 1, 1)} {
				c.Table, c.ID = table, id
				if k := delta.Kind(c); k != i%4 {
					t.Error(c, k)
				}
			}
		}
	}
}

func TestOfEveryKindAndTable(t *testing.T) {
	var l []delta.Change
	for _, table := range []string{"t", "s", "t", "", "tt"} {
		for _, id := range []int{3, 1, 3, -1} {
			l = append(l, updated(table, id, 1, 2), inserted(table, id, 3), deleted(table, id, 4), updated(table, id, 5, 5), delta.Change{Table: table, ID: id}, inserted(table, id, 3))
		}
	}
	for _, list := range [][]delta.Change{nil, {}, l, delta.Net(l), l[:1], l[5:23]} {
		for _, table := range []string{"t", "s", "", "tt", "ttt", "T", "t ", "u", "t\x00"} {
			for _, k := range []int{1, 2, 3, 0, -1, 4, 5, 256, 257, math.MinInt, math.MaxInt} {
				var these []delta.Change
				for _, c := range list {
					if c.Table == table && kind(c) == k {
						these = append(these, c)
					}
				}
				want(t, fmt.Sprintf("Of %q, %d", table, k), delta.Of(list, table, k), these)
			}
		}
	}
}

func TestOfKeepsTheOrder(t *testing.T) {
	l := []delta.Change{inserted("t", 9, 1), inserted("s", 8, 1), inserted("t", 2, 1), deleted("t", 2, 1), inserted("t", 9, 7), inserted("t", 2, 1), inserted("t", -4, 3)}
	want(t, "insertions", delta.Of(l, "t", delta.Inserts), []delta.Change{l[0], l[2], l[4], l[5], l[6]})
	want(t, "deletions", delta.Of(l, "t", delta.Deletes), []delta.Change{l[3]})
	want(t, "changes", delta.Of(l, "t", delta.Updates), nil)
	want(t, "those of another one", delta.Of(l, "s", delta.Inserts), []delta.Change{l[1]})
}

func TestOfTakesWhatDoesNothingForTheKindZero(t *testing.T) {
	l := []delta.Change{{Table: "t", ID: 1}, inserted("t", 1, 1), updated("t", 2, 1, 1), {Table: "s", ID: 1}, {Table: "t", ID: 1}}
	want(t, "Of 0", delta.Of(l, "t", 0), []delta.Change{l[0], l[2], l[4]})
}
