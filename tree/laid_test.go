package tree_test

import (
	"slices"
	"strings"
	"testing"

	"tripwire/api"
	"tripwire/arena"
	"tripwire/page"
	"tripwire/tree"
)

func leaf(l ...string) page.Node { return page.Node{Leaf: true, Recs: l} }

func inner(recs []string, kids ...int) page.Node { return page.Node{Recs: recs, Kids: kids} }

// of400 is texts of 400 bytes that begin with these letters.
func of400(letters string) []string {
	var l []string
	for i := range letters {
		l = append(l, letters[i:i+1]+strings.Repeat("x", 399))
	}
	return l
}

// laid is an arena with these nodes as its pages, from 1 on.
func laid(t *testing.T, l ...page.Node) *arena.Arena {
	t.Helper()
	a, _ := arena.New(api.MaxPages)
	for _, n := range l {
		at, _ := a.Alloc()
		b, e := page.Encode(n)
		if e != api.OK {
			t.Fatal(e)
		}
		a.Store(at, b)
	}
	return a
}

// TestDeleteWithinLaidTrees: trees that are laid by hand, so that each way in which a node may go is met. The root is page 1.
func TestDeleteWithinLaidTrees(t *testing.T) {
	long := of400("l")[0]
	for name, c := range map[string]struct {
		nodes         []page.Node
		height        int
		out           string // how the entry that is deleted begins
		pages, behind int    // what it comes to: how many pages, and the height
	}{
		"joined with the one ahead":         {[]page.Node{inner([]string{"d", "h"}, 2, 3, 4), leaf(of400("a")...), leaf(of400("de")...), leaf(of400("hi")...)}, 2, "e", 3, 2},
		"joined with the one behind":        {[]page.Node{inner([]string{"d", "h"}, 2, 3, 4), leaf(of400("ab")...), leaf(of400("de")...), leaf(of400("h")...)}, 2, "d", 3, 2},
		"joined with the first":             {[]page.Node{inner([]string{"d", "h"}, 2, 3, 4), leaf(of400("ab")...), leaf(of400("d")...), leaf(of400("hi")...)}, 2, "a", 3, 2},
		"joined with the last but one":      {[]page.Node{inner([]string{"d", "h"}, 2, 3, 4), leaf(of400("ab")...), leaf(of400("d")...), leaf(of400("hi")...)}, 2, "i", 3, 2},
		"too great for its neighbours":      {[]page.Node{inner([]string{"d", "h"}, 2, 3, 4), leaf(of400("ab")...), leaf(of400("de")...), leaf(of400("hi")...)}, 2, "e", 4, 2},
		"nothing left of the first":         {[]page.Node{inner([]string{"d", "h"}, 2, 3, 4), leaf(of400("a")...), leaf(of400("de")...), leaf(of400("hi")...)}, 2, "a", 3, 2},
		"nothing left in the midst":         {[]page.Node{inner([]string{"d", "h"}, 2, 3, 4), leaf(of400("ab")...), leaf(of400("d")...), leaf(of400("hi")...)}, 2, "d", 3, 2},
		"nothing left of the last":          {[]page.Node{inner([]string{"d", "h"}, 2, 3, 4), leaf(of400("ab")...), leaf(of400("de")...), leaf(of400("h")...)}, 2, "h", 3, 2},
		"two become the root":               {[]page.Node{inner([]string{"d"}, 2, 3), leaf(of400("a")...), leaf(of400("de")...)}, 2, "d", 1, 1},
		"one becomes the root":              {[]page.Node{inner([]string{"d"}, 2, 3), leaf(of400("ab")...), leaf(of400("d")...)}, 2, "d", 1, 1},
		"an inner node is left with one":    {[]page.Node{inner(of400("k"), 2, 3), inner(of400("cf"), 4, 5, 6), inner(of400("p"), 7, 8), leaf(of400("ab")...), leaf(of400("ce")...), leaf(of400("fg")...), leaf(of400("ko")...), leaf(of400("p")...)}, 3, "p", 7, 3},
		"inner nodes are joined":            {[]page.Node{inner(of400("k"), 2, 3), inner(of400("c"), 4, 5), inner([]string{"p"}, 6, 7), leaf(of400("ab")...), leaf(of400("ce")...), leaf(of400("ko")...), leaf(of400("p")...)}, 3, "p", 4, 2},
		"inner nodes are joined, turned":    {[]page.Node{inner(of400("k"), 2, 3), inner([]string{"c"}, 4, 5), inner(of400("p"), 6, 7), leaf("a"), leaf(of400("ce")...), leaf(of400("ko")...), leaf(of400("pq")...)}, 3, "a", 4, 2},
		"an inner node goes with its last":  {[]page.Node{inner(of400("k"), 2, 3), inner(of400("cf"), 4, 5, 6), inner(nil, 7), leaf(of400("ab")...), leaf(of400("ce")...), leaf(of400("fg")...), leaf(of400("k")...)}, 3, "k", 4, 2},
		"an inner node goes with its first": {[]page.Node{inner(of400("d"), 2, 3), inner(nil, 4), inner(of400("kp"), 5, 6, 7), leaf(of400("a")...), leaf(of400("de")...), leaf(of400("kl")...), leaf(of400("pq")...)}, 3, "a", 4, 2},
		"two of one each under a root":      {[]page.Node{inner(of400("k"), 2, 3), inner(nil, 4), inner(nil, 5), leaf(of400("ab")...), leaf(of400("k")...)}, 3, "k", 1, 1},
		"many of one each under a root":     {[]page.Node{inner(of400("k"), 2, 3), inner(nil, 4), inner(nil, 5), inner(nil, 6), inner(nil, 7), leaf(of400("a")...), leaf(of400("kl")...)}, 4, "a", 1, 1},
		"the root keeps others":             {[]page.Node{inner(of400("gk"), 2, 3, 4), inner(nil, 5), inner(nil, 6), inner(nil, 7), leaf(of400("ab")...), leaf(of400("g")...), leaf(of400("kl")...)}, 3, "g", 5, 3},
		"a long one stands between":         {[]page.Node{inner([]string{long}, 2, 3), leaf("a", "b"), leaf(long, "m")}, 2, long, 1, 1},
	} {
		t.Run(name, func(t *testing.T) {
			a := laid(t, c.nodes...)
			var want []string
			k := looked(a, tree.Head{Root: 1, Height: c.height})
			if want = k.entries; len(k.wrong) > 0 || len(k.pages) != len(c.nodes) {
				t.Fatal("the tree isn't right:", k.wrong, k.pages)
			}
			x := tree.Open(a, tree.Head{Root: 1, Height: c.height, Len: len(want)})
			alone(t, a, x, want)
			out := want[slices.IndexFunc(want, func(s string) bool { return strings.HasPrefix(s, c.out) })]
			a.Limit(0)
			if e := x.Delete(out); e != api.OK {
				t.Fatal(e)
			}
			alone(t, a, x, without(want, out))
			if a.Used() != c.pages || x.Height() != c.behind {
				t.Errorf("%d pages, height %d, not %d, %d", a.Used(), x.Height(), c.pages, c.behind)
			}
		})
	}
}

// TestInsertWithinLaidTrees: an inner node with one of the Kids, and leaves without entries, which are right as well, go on.
func TestInsertWithinLaidTrees(t *testing.T) {
	a := laid(t, inner(of400("k"), 2, 3), inner(nil, 4), inner(nil, 5), leaf(), leaf())
	x := tree.Open(a, tree.Head{Root: 1, Height: 3})
	var want []string
	for i, s := range of400("zamkylbcdefghijnopqrstuvwx") {
		if e := x.Insert(s); e != api.OK {
			t.Fatal(i, e)
		}
		want = with(want, s)
		alone(t, a, x, want)
	}
	for len(want) > 0 {
		s := want[len(want)*5/7]
		if e := x.Delete(s); e != api.OK {
			t.Fatal(e)
		}
		want = without(want, s)
		alone(t, a, x, want)
	}
}

// TestThinnedOut: what is left, when most of the entries are deleted, has few pages.
func TestThinnedOut(t *testing.T) {
	for name, l := range samples() {
		a, _ := arena.New(api.MaxPages)
		x := filled(t, a, l)
		for i, s := range l {
			if i%10 > 0 {
				x.Delete(s)
			}
		}
		if len(told(x)) != (len(l)+9)/10 {
			t.Error(name, len(told(x)))
		}
		bytes := 0
		for _, s := range told(x) {
			bytes += 4 + len(s)
		}
		if most := 2 + 4*bytes/api.PageSize; a.Used() > most {
			t.Errorf("%s: %d bytes of entries on %d pages, not %d at most", name, bytes, a.Used(), most)
		}
	}
}
