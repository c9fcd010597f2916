package page_test

import (
	"math/rand/v2"
	"slices"
	"strings"
	"testing"

	"tripwire/page"
)

// weight is what a side weighs.
func weight(n page.Node, side []string) int {
	each := 8
	if n.Leaf {
		each = 4
	}
	return each*len(side) + len(strings.Join(side, ""))
}

// place is k as the chapter tells it: the least one whose heavier side is the lightest.
func place(n page.Node) int {
	skip := 1
	if n.Leaf {
		skip = 0
	}
	var heavier []int
	for k := 1; k+skip < len(n.Recs); k++ {
		heavier = append(heavier, max(weight(n, n.Recs[:k]), weight(n, n.Recs[k+skip:])))
	}
	return 1 + slices.Index(heavier, slices.Min(heavier))
}

// wantSplit holds a Split against the chapter, and takes it back.
func wantSplit(t *testing.T, n page.Node, k int) {
	t.Helper()
	wantA, wantB := leaf(n.Recs[:k]...), page.Node{Leaf: true}
	if n.Leaf {
		wantB.Recs = n.Recs[k:]
	} else {
		wantA, wantB = inner(n.Recs[:k], n.Kids[:k+1]...), inner(n.Recs[k+1:], n.Kids[k+1:]...)
	}
	a, sep, b := page.Split(n)
	if !same(a, wantA) || sep != n.Recs[k] || !same(b, wantB) {
		t.Fatalf("%s: %s; %.6q; %s; not at %d", brief(n), brief(a), sep, brief(b), k)
	}
	if j := page.Join(a, sep, b); !same(j, n) {
		t.Fatalf("%s: joined: %s", brief(n), brief(j))
	}
}

// of is a node with entries of such lengths, rising.
func of(isLeaf bool, sizes ...int) page.Node {
	n := page.Node{Leaf: isLeaf}
	for i, size := range sizes {
		n.Recs = append(n.Recs, wide(byte(i), size))
	}
	if !isLeaf {
		n.Kids = numbers(len(sizes) + 1)
	}
	return n
}

func TestSplitOfLeaves(t *testing.T) {
	for _, c := range []struct {
		k     int
		sizes []int
	}{
		{1, []int{1, 1}}, {1, []int{1, 400}}, {1, []int{400, 1}}, {1, []int{400, 400}},
		{1, []int{1, 1, 1}}, {2, []int{1, 1, 2}}, {1, []int{2, 1, 1}}, {2, []int{1, 1, 1, 1}}, {2, []int{1, 1, 1, 1, 1}},
		{2, []int{1, 1, 400}}, {1, []int{400, 1, 1}}, {1, []int{1, 400, 1}}, {4, []int{1, 1, 1, 1, 400}}, {1, []int{400, 1, 1, 1, 1}},
		{2, []int{5, 5, 10, 5}}, {3, []int{1, 1, 1, 11, 1}}, {1, []int{400, 400, 200}}, {2, []int{200, 400, 400}},
		{4, []int{1, 1, 1, 1, 16}}, {3, []int{1, 1, 1, 6, 10}}, {2, []int{6, 6, 1, 1, 6}}, {1, []int{6, 1, 1}},
	} {
		n := of(true, c.sizes...)
		if k := place(n); k != c.k {
			t.Fatal(c.sizes, "told otherwise:", k)
		}
		wantSplit(t, n, c.k)
	}
}

func TestSplitOfInnerNodes(t *testing.T) {
	for _, c := range []struct {
		k     int
		sizes []int
	}{
		{1, []int{1, 1, 1}}, {1, []int{400, 1, 1}}, {1, []int{1, 1, 400}}, {1, []int{1, 400, 1}}, {1, []int{400, 400, 100}},
		{1, []int{1, 1, 1, 1}}, {2, []int{1, 1, 1, 2}}, {1, []int{2, 1, 1, 1}}, {2, []int{1, 1, 1, 1, 1}}, {2, []int{1, 1, 1, 1, 1, 1}},
		{2, []int{1, 1, 1, 400}}, {1, []int{400, 1, 1, 1}}, {1, []int{1, 400, 1, 1}}, {2, []int{1, 1, 400, 1}},
		{3, []int{1, 1, 1, 1, 300}}, {3, []int{1, 1, 1, 300, 1}}, {1, []int{300, 1, 1, 1, 1}}, {1, []int{1, 300, 1, 1}},
		{2, []int{1, 5, 1, 1, 1}}, {1, []int{1, 13, 1, 1, 1}}, {1, []int{1, 10, 1, 1, 1}}, {2, []int{1, 9, 1, 1, 1}},
	} {
		n := of(false, c.sizes...)
		if k := place(n); k != c.k {
			t.Fatal(c.sizes, "told otherwise:", k)
		}
		wantSplit(t, n, c.k)
	}
}

// TestSplitOfAllSizes goes through all lists of lengths in which ways to cut come close to each other.
func TestSplitOfAllSizes(t *testing.T) {
	var all func(l []int)
	all = func(l []int) {
		if len(l) >= 2 {
			n := of(true, l...)
			wantSplit(t, n, place(n))
		}
		if len(l) >= 3 {
			n := of(false, l...)
			wantSplit(t, n, place(n))
		}
		if len(l) == 6 {
			return
		}
		for _, size := range []int{1, 2, 5, 9, 40} {
			all(append(slices.Clone(l), size))
		}
	}
	all(nil)
}

// TestSplitOfLongLists takes nodes of which some are too great, as a tree splits just those.
func TestSplitOfLongLists(t *testing.T) {
	for seed := range uint64(200) {
		r := rand.New(rand.NewPCG(seed, 6))
		var sizes []int
		for range 3 + r.IntN(120) {
			sizes = append(sizes, 1+r.IntN([]int{3, 30, 400}[seed%3]))
		}
		for _, isLeaf := range []bool{true, false} {
			n := of(isLeaf, sizes...)
			wantSplit(t, n, place(n))
		}
	}
	for _, n := range append(rights(), greats()[:8]...) {
		if len(n.Recs) >= 3 {
			wantSplit(t, n, place(n))
		}
	}
}

func TestSplitOfTooFew(t *testing.T) {
	for _, n := range []page.Node{
		{}, leaf(), leaf("a"), leaf(""), {Leaf: true, Recs: []string{"a"}, Kids: []int{1, 2}}, {Leaf: true, Kids: []int{1, 2, 3}},
		inner(nil, 1), inner(nil, 1, 2, 3, 4), inner([]string{"a"}, 1, 2), inner([]string{"a"}), inner([]string{"a", "b"}, 1, 2, 3), inner([]string{"a", "b"}),
	} {
		if a, sep, b := page.Split(n); !nothing(a) || sep != "" || !nothing(b) {
			t.Errorf("%s: %s; %q; %s", brief(n), brief(a), sep, brief(b))
		}
	}
}

// TestSplitGoesByPlaces takes entries that don't rise: a Split doesn't look at their order.
func TestSplitGoesByPlaces(t *testing.T) {
	for _, n := range []page.Node{leaf("b", "a"), leaf("a", "a", "a"), leaf("", ""), leaf("", "", "c"), leaf(make([]string, 3000)...), inner([]string{"c", "", "c"}, 0, -1, 9, 9), inner(make([]string, 4), 1, 2, 3, 4, 5)} {
		wantSplit(t, n, place(n))
	}
}

// TestSplitOfOtherKids takes nodes with too few or too many Kids: none is made up, none is lost.
func TestSplitOfOtherKids(t *testing.T) {
	for kids := range 9 {
		n := inner([]string{"a", "b", "c", "d", "e"}, numbers(kids)...)
		a, sep, b := page.Split(n)
		cut := min(3, kids)
		if !same(a, inner(n.Recs[:2], n.Kids[:cut]...)) || sep != "c" || !same(b, inner(n.Recs[3:], n.Kids[cut:]...)) {
			t.Errorf("%d kids: %s; %q; %s", kids, brief(a), sep, brief(b))
		}
	}
	a, sep, b := page.Split(page.Node{Leaf: true, Recs: []string{"a", "b"}, Kids: []int{1, 2, 3}})
	if !same(a, leaf("a")) || sep != "b" || !same(b, leaf("b")) {
		t.Errorf("a leaf with Kids: %s; %q; %s", brief(a), sep, brief(b))
	}
}

func TestJoin(t *testing.T) {
	for _, c := range []struct {
		a    page.Node
		sep  string
		b    page.Node
		want page.Node
	}{
		{leaf("a", "b"), "c", leaf("c", "d"), leaf("a", "b", "c", "d")},
		{leaf("a"), "z", leaf("c"), leaf("a", "c")},
		{leaf("a"), "", leaf("c"), leaf("a", "c")},
		{leaf(), "c", leaf("c"), leaf("c")},
		{leaf("a"), "c", leaf(), leaf("a")},
		{leaf(), "c", leaf(), leaf()},
		{leaf("c"), "b", leaf("a", "c"), leaf("c", "a", "c")},
		{inner([]string{"a"}, 1, 2), "b", inner([]string{"c"}, 3, 4), inner([]string{"a", "b", "c"}, 1, 2, 3, 4)},
		{inner(nil, 5), "b", inner([]string{"c"}, 3, 4), inner([]string{"b", "c"}, 5, 3, 4)},
		{inner([]string{"a"}, 1, 2), "b", inner(nil, 5), inner([]string{"a", "b"}, 1, 2, 5)},
		{inner(nil, 5), "b", inner(nil, 4), inner([]string{"b"}, 5, 4)},
		{page.Node{}, "b", page.Node{}, inner([]string{"b"})},
		{page.Node{}, "", page.Node{}, inner([]string{""})},
		{inner([]string{"c"}, 0), "a", inner(nil, -1, 1, 1), inner([]string{"c", "a"}, 0, -1, 1, 1)},
		{leaf(wide('a', 400)), "", leaf(wide('b', 400), wide('c', 400)), leaf(wide('a', 400), wide('b', 400), wide('c', 400))},
	} {
		if got := page.Join(c.a, c.sep, c.b); !same(got, c.want) {
			t.Errorf("%s; %q; %s: %s", brief(c.a), c.sep, brief(c.b), brief(got))
		}
	}
}

// TestJoinOfTwoKinds: it is done as with two nodes of the first one's kind, of which a leaf has entries and nothing else.
func TestJoinOfTwoKinds(t *testing.T) {
	x, y := leaf("a", "b"), inner([]string{"g", "m"}, 3, 1, 4)
	if got := page.Join(x, "c", y); !same(got, leaf("a", "b", "g", "m")) {
		t.Errorf("a leaf and an inner node: %s", brief(got))
	}
	if got := page.Join(y, "p", x); !same(got, inner([]string{"g", "m", "p", "a", "b"}, 3, 1, 4)) {
		t.Errorf("an inner node and a leaf: %s", brief(got))
	}
	if got := page.Join(leaf(), "c", page.Node{}); !same(got, leaf()) {
		t.Errorf("an empty leaf and an empty inner node: %s", brief(got))
	}
	if got := page.Join(page.Node{}, "c", leaf()); !same(got, inner([]string{"c"})) {
		t.Errorf("an empty inner node and an empty leaf: %s", brief(got))
	}
}
