package delta_test

import (
	"fmt"
	"math"
	"slices"
	"testing"

	"tripwire/api"
	"tripwire/delta"
)

// someTables are names, rising: among them those that are a beginning of others, and what is no name.
func someTables() []string {
	return []string{"", "\x00", "1", "A", "B", "a", "a\x00", "a0", "a00", "aB", "a_", "aa", "aaa", "ab", "b", "b1", "z", "\u00e9", "\xff", "\xff\xff"}
}

// someIDs are ids, rising: among them those whose difference is no int.
func someIDs() []int {
	return []int{math.MinInt, math.MinInt + 1, -1 << 40, -2, -1, 0, 1, 2, 9, 10, 255, 256, 1 << 32, 1<<32 + 1, api.MaxNum, math.MaxInt - 1, math.MaxInt}
}

func TestNetOfRowsNamedOnce(t *testing.T) {
	want(t, "no changes", delta.Net(nil), nil)
	want(t, "no changes", delta.Net([]delta.Change{}), nil)
	for _, a := range someLists() {
		for _, b := range someLists() {
			c := delta.Change{Table: "t", ID: 7, Old: a, New: b}
			if kind(c) == 0 {
				want(t, "what does nothing", delta.Net([]delta.Change{c}), nil)
			} else {
				want(t, "one change", delta.Net([]delta.Change{c}), []delta.Change{c})
			}
		}
	}
}

func TestNetOfARowNamedOften(t *testing.T) {
	none := delta.Change{Table: "t", ID: 1}
	for _, x := range []struct {
		what string
		l    []delta.Change
		want []delta.Change
	}{
		{"an insertion and its deletion", []delta.Change{inserted("t", 1, 1), deleted("t", 1, 1)}, nil},
		{"an insertion, then changed", []delta.Change{inserted("t", 1, 1), updated("t", 1, 1, 2)}, []delta.Change{inserted("t", 1, 2)}},
		{"an insertion, changed, deleted", []delta.Change{inserted("t", 1, 1), updated("t", 1, 1, 2), deleted("t", 1, 2)}, nil},
		{"a deletion, others inserted", []delta.Change{deleted("t", 1, 1), inserted("t", 1, 2)}, []delta.Change{updated("t", 1, 1, 2)}},
		{"a deletion, the same inserted", []delta.Change{deleted("t", 1, 1), inserted("t", 1, 1)}, nil},
		{"changed, then deleted", []delta.Change{updated("t", 1, 1, 2), deleted("t", 1, 2)}, []delta.Change{deleted("t", 1, 1)}},
		{"changed and back", []delta.Change{updated("t", 1, 1, 2), updated("t", 1, 2, 1)}, nil},
		{"changed twice", []delta.Change{updated("t", 1, 1, 2), updated("t", 1, 2, 3)}, []delta.Change{updated("t", 1, 1, 3)}},
		{"changed and back, then on", []delta.Change{updated("t", 1, 1, 2), updated("t", 1, 2, 1), updated("t", 1, 1, 4)}, []delta.Change{updated("t", 1, 1, 4)}},
		{"nothing ahead", []delta.Change{none, inserted("t", 1, 1)}, []delta.Change{inserted("t", 1, 1)}},
		{"nothing behind", []delta.Change{deleted("t", 1, 1), none}, []delta.Change{deleted("t", 1, 1)}},
		{"a row that stays, ahead", []delta.Change{updated("t", 1, 1, 1), updated("t", 1, 1, 2)}, []delta.Change{updated("t", 1, 1, 2)}},
		{"a row that stays, behind", []delta.Change{inserted("t", 1, 1), updated("t", 1, 1, 1)}, []delta.Change{inserted("t", 1, 1)}},
		{"all of it", []delta.Change{none, inserted("t", 1, 1), deleted("t", 1, 1), none, inserted("t", 1, 5), updated("t", 1, 5, 5), updated("t", 1, 5, 6)}, []delta.Change{inserted("t", 1, 6)}},
		{"insertions that don't follow", []delta.Change{inserted("t", 1, 1), inserted("t", 1, 2)}, []delta.Change{inserted("t", 1, 2)}},
		{"deletions that don't follow", []delta.Change{deleted("t", 1, 1), deleted("t", 1, 2)}, []delta.Change{deleted("t", 1, 1)}},
		{"changes that don't follow", []delta.Change{updated("t", 1, 1, 2), updated("t", 1, 3, 4)}, []delta.Change{updated("t", 1, 1, 4)}},
		{"what does nothing ahead of what doesn't follow", []delta.Change{none, updated("t", 1, 1, 2)}, []delta.Change{inserted("t", 1, 2)}},
		{"what does nothing behind what doesn't lead there", []delta.Change{updated("t", 1, 1, 2), none}, []delta.Change{deleted("t", 1, 1)}},
		{"a row that stays ahead of another", []delta.Change{updated("t", 1, 3, 3), inserted("t", 1, 2)}, []delta.Change{updated("t", 1, 3, 2)}},
		{"a change back from elsewhere", []delta.Change{updated("t", 1, 1, 2), updated("t", 1, 5, 1)}, nil},
		{"nothing twice, that differ", []delta.Change{updated("t", 1, 1, 1), updated("t", 1, 2, 2)}, []delta.Change{updated("t", 1, 1, 2)}},
	} {
		want(t, x.what, delta.Net(x.l), x.want)
	}
}

func TestNetOfTheWholeExample(t *testing.T) {
	l := []delta.Change{
		inserted("t", 2, 1), updated("t", 1, 5, 6), updated("t", 2, 1, 2), deleted("s", 9, 7), inserted("t", 3, 1), deleted("t", 3, 1), updated("t", 4, 1, 2), updated("t", 4, 2, 1),
	}
	want(t, "Net", delta.Net(l), []delta.Change{deleted("s", 9, 7), updated("t", 1, 5, 6), inserted("t", 2, 2)})
}

func TestNetStandsByTableThenByID(t *testing.T) {
	var rising []delta.Change
	for _, table := range someTables() {
		for _, id := range someIDs() {
			rising = append(rising, updated(table, id, 1, 2))
		}
	}
	falling := slices.Clone(rising)
	slices.Reverse(falling)
	want(t, "rising", delta.Net(rising), rising)
	want(t, "falling", delta.Net(falling), rising)
	for step := 3; step < len(rising); step++ { // the same, gone through by steps that come to each once
		if gcd(step, len(rising)) > 1 {
			continue
		}
		var l []delta.Change
		for i := range rising {
			l = append(l, rising[(i*step)%len(rising)])
		}
		want(t, fmt.Sprint("by steps of ", step), delta.Net(l), rising)
		want(t, fmt.Sprint("by steps of ", step, ", twice"), delta.Net(append(l, l...)), rising)
	}
}

func gcd(a, b int) int {
	if b == 0 {
		return a
	}
	return gcd(b, a%b)
}

func TestRowsOfOneIDInSeveralTables(t *testing.T) {
	l := []delta.Change{inserted("t1", 1, 1), inserted("t", 11, 2), inserted("t", 1, 3), deleted("t1", 1, 1), inserted("t11", 1, 4), updated("t", 1, 3, 5), inserted("", 1, 6), inserted("t1", 11, 7)}
	want(t, "Net", delta.Net(l), []delta.Change{inserted("", 1, 6), inserted("t", 1, 5), inserted("t", 11, 2), inserted("t1", 11, 7), inserted("t11", 1, 4)})
}

// orders calls f with every order of l.
func orders(l []delta.Change, n int, f func([]delta.Change)) {
	if n == len(l) {
		f(l)
		return
	}
	for i := n; i < len(l); i++ {
		l[n], l[i] = l[i], l[n]
		orders(l, n+1, f)
		l[n], l[i] = l[i], l[n]
	}
}

func TestNetInEveryOrder(t *testing.T) {
	for _, l := range [][]delta.Change{
		{inserted("t", 1, 1), inserted("t", 2, 1), inserted("s", 1, 1), deleted("s", 2, 1), updated("tt", 1, 1, 2), updated("", -1, 1, 2)},
		{inserted("t", 1, 1), updated("t", 1, 1, 2), deleted("t", 1, 2), inserted("t", 1, 3), {Table: "t", ID: 1}, updated("t", 1, 4, 4)},
		{inserted("t", 1, 1), deleted("t", 1, 1), inserted("t", -1, 1), deleted("t", -1, 1), inserted("s", 1, 1), deleted("s", 1, 1), updated("s", 1, 2, 3)},
		{updated("t", 1, 1, 2), updated("t", 1, 2, 1), updated("tt", 1, 1, 2), updated("tt", 1, 2, 1), inserted("t", math.MaxInt, 1), inserted("t", math.MinInt, 1), inserted("t", 0, 1)},
	} {
		orders(l, 0, func(l []delta.Change) {
			want(t, told(l), delta.Net(l), net(l))
		})
	}
}

// few are all changes of two rows from and to nothing, and two values.
func few() []delta.Change {
	states := [][]api.Value{nil, values(1), values(2)}
	var l []delta.Change
	for _, table := range []string{"t", "s"} {
		for _, a := range states {
			for _, b := range states {
				l = append(l, delta.Change{Table: table, ID: 1, Old: a, New: b})
			}
		}
	}
	return l
}

// lists calls f with every list of at most n changes of those given.
func lists(from []delta.Change, n int, f func([]delta.Change)) {
	var longer func(l []delta.Change)
	longer = func(l []delta.Change) {
		f(l)
		if len(l) == n {
			return
		}
		for _, c := range from {
			longer(append(l, c))
		}
	}
	longer(nil)
}

func TestNetOfEveryShortList(t *testing.T) {
	lists(few(), 4, func(l []delta.Change) {
		if got := delta.Net(l); !same(got, net(l)) {
			t.Fatalf("%s: %s, not %s", told(l), told(got), told(net(l)))
		}
	})
}

func TestOfOfEveryShortList(t *testing.T) {
	lists(few(), 3, func(l []delta.Change) {
		for k := -1; k <= 4; k++ {
			of := delta.Of(l, "t", k)
			these := slices.DeleteFunc(slices.Clone(l), func(c delta.Change) bool { return c.Table != "t" || kind(c) != k })
			if !same(of, these) {
				t.Fatalf("Of %s, %d: %s", told(l), k, told(of))
			}
		}
	})
}

func TestNetOfAsManyAsALogHas(t *testing.T) {
	var l, is []delta.Change
	for i := range api.MaxLog {
		id := (i * 77773) % api.MaxLog // each one once
		l = append(l, inserted("t", id, id))
		is = append(is, inserted("t", i, i))
	}
	want(t, "as many rows", delta.Net(l), is)
	l = l[:0]
	for i := range api.MaxLog {
		l = append(l, updated("t", i%3, i-3, i))
	}
	want(t, "three rows", delta.Net(l), []delta.Change{updated("t", 0, -3, api.MaxLog-1), updated("t", 1, -2, api.MaxLog-3), updated("t", 2, -1, api.MaxLog-2)})
}
