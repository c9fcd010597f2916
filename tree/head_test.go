package tree_test

import (
	"maps"
	"math"
	"slices"
	"strings"
	"testing"

	"tripwire/api"
	"tripwire/arena"
	"tripwire/page"
	"tripwire/tree"
)

// over holds that a tree is over.
func over(t *testing.T, name string, x *tree.Tree) {
	t.Helper()
	for _, s := range []string{"", "a", wide(3, 400), strings.Repeat("x", 401)} {
		if e, f := x.Insert(s), x.Delete(s); e != api.ErrArg || f != api.ErrArg {
			t.Errorf("%s: Insert and Delete of %s: %v, %v", name, short(s), e, f)
		}
		if x.Has(s) {
			t.Errorf("%s: it has %s", name, short(s))
		}
		x.Each(s, "", func(s string) bool {
			t.Errorf("%s: Each tells %s", name, short(s))
			return true
		})
	}
	x.Each("", "", nil)
	if x.Len() != 0 || x.Height() != 0 || x.Root() != 0 || len(x.Pages()) != 0 || x.Head() != (tree.Head{}) {
		t.Errorf("%s: %d, %d, %d, %v, %v", name, x.Len(), x.Height(), x.Root(), x.Pages(), x.Head())
	}
	if e := x.Drop(); e != api.ErrArg {
		t.Errorf("%s: Drop: %v", name, e)
	}
}

func TestNoTree(t *testing.T) {
	over(t, "nil", nil)
	over(t, "the zero Tree", &tree.Tree{})
}

func TestDrop(t *testing.T) {
	for _, n := range []int{0, 1, 3, 10, 100} {
		a, _ := arena.New(api.MaxPages)
		a.Alloc()
		x := filled(t, a, wides(n, 400))
		y := filled(t, a, wides(30, 350))
		page, _ := a.Alloc()
		kept := append([]int{1, page}, y.Pages()...)
		slices.Sort(kept)
		was := held(a)
		maps.DeleteFunc(was, func(n int, _ string) bool { return !slices.Contains(kept, n) })
		if e := x.Drop(); e != api.OK {
			t.Error(n, e)
		}
		if !slices.Equal(a.Pages(), kept) || !maps.Equal(was, held(a)) {
			t.Errorf("%d entries: %v in use, not %v", n, a.Pages(), kept)
		}
		over(t, "dropped", x)
		check(t, a, y, wides(30, 350))
		if !maps.Equal(was, held(a)) {
			t.Error("the calls of a dropped tree changed something")
		}
	}
}

func TestDropWithNoPageLeft(t *testing.T) {
	a, x, _, _ := high(t, 3)
	a.Limit(0)
	if e := x.Drop(); e != api.OK || a.Used() != 0 {
		t.Error(e, a.Used())
	}
}

func TestOpen(t *testing.T) {
	for _, h := range []tree.Head{{}, {Root: 1, Height: 1}, {Root: -1, Height: -1, Len: -1}} {
		if x := tree.Open(nil, h); x != nil {
			t.Error(x)
		}
	}
	a, x := fresh(t, api.MaxPages)
	if y := tree.Open(a, tree.Head{}); y == nil {
		t.Error("nil")
	} else {
		over(t, "the zero Head's", y)
	}
	for height := 1; height < 5; height++ {
		var l []string
		a, x, l, _ = high(t, height)
		y := tree.Open(a, x.Head())
		if y == x {
			t.Error("the same one")
		}
		alone(t, a, y, l)
		for i, s := range l {
			if !y.Has(s) || y.Has(s+"x") || y.Insert(s) != api.ErrThere {
				t.Error(height, i)
			}
		}
	}
}

// TestOpenGoesOn: what is opened by a head and what it was of do the same, when they are told the same.
func TestOpenGoesOn(t *testing.T) {
	for _, l := range samples() {
		a, _ := arena.New(api.MaxPages)
		b, _ := arena.New(api.MaxPages)
		x, y := filled(t, a, l[:len(l)/2]), filled(t, b, l[:len(l)/2])
		for i := range l {
			y = tree.Open(b, y.Head())
			out, in := l[i*13%len(l)], l[i*29%len(l)]
			if e, f := x.Delete(out), y.Delete(out); e != f {
				t.Fatal(e, f)
			}
			y = tree.Open(b, y.Head())
			if e, f := x.Insert(in), y.Insert(in); e != f || x.Head() != y.Head() {
				t.Fatal(e, f, x.Head(), y.Head())
			}
		}
		alone(t, b, y, told(x))
		if !maps.Equal(held(a), held(b)) {
			t.Error("other pages")
		}
	}
}

func TestOpenBehindRestore(t *testing.T) {
	for _, l := range samples() {
		a, x := fresh(t, api.MaxPages)
		for _, s := range l[:len(l)/2] {
			x.Insert(s)
		}
		was, snap, head := held(a), a.Snap(), x.Head()
		for round, ruin := range []func(){
			func() {},
			func() { x.Drop() },
			func() {
				for i, s := range l {
					x.Insert(s)
					x.Delete(l[i/2])
				}
			},
			func() {
				x.Drop()
				filled(t, a, wides(40, 390))
			},
		} {
			ruin()
			if e := a.Restore(snap); e != api.OK {
				t.Fatal(e)
			}
			x = tree.Open(a, head)
			alone(t, a, x, l[:len(l)/2])
			if !maps.Equal(was, held(a)) {
				t.Error(round, "the pages aren't what they were")
			}
		}
		for _, s := range l {
			x.Insert(s)
		}
		alone(t, a, x, l)
	}
}

// tried is all calls of a tree: none may panic, and one that is refused changes nothing.
func tried(t *testing.T, a *arena.Arena, h tree.Head) {
	t.Helper()
	x := tree.Open(a, h)
	was, head := held(a), x.Head()
	refuse := func(what string, e api.Errno) {
		t.Helper()
		if e != api.OK && (!maps.Equal(was, held(a)) || x.Head() != head) {
			t.Errorf("%v: %s: it was refused with %v, but something changed", h, what, e)
		}
		was, head = held(a), x.Head()
	}
	for _, s := range []string{"", "a", "m", "z", wide(3, 400), wide(7, 400), strings.Repeat("x", 401), strings.Repeat("y", 400)} {
		refuse("Insert of "+short(s), x.Insert(s))
		refuse("Delete of "+short(s), x.Delete(s))
		refuse("Delete of "+short(s), x.Delete(s))
		x.Has(s)
		x.Each(s, "", func(string) bool { return true })
		x.Each("", s, func(string) bool { return true })
		x.Len()
		x.Height()
		x.Root()
		x.Pages()
		x.Head()
	}
	refuse("Drop", x.Drop())
}

// TestHeadsOfNoTree: whatever a head says, all calls end, and none panics.
func TestHeadsOfNoTree(t *testing.T) {
	a, x, _, _ := high(t, 3)
	snap, roots := a.Snap(), []int{math.MinInt, -1, 0, api.MaxPages, api.MaxPages + 1, math.MaxInt}
	blank, _ := a.Alloc()
	for n := range blank + 2 {
		roots = append(roots, n)
	}
	heights := []int{math.MinInt, -1, 0, 1, 2, 3, 4, api.MaxPages, api.MaxPages + 1, math.MaxInt}
	for _, root := range roots {
		for _, height := range heights {
			for _, n := range []int{math.MinInt, -1, 0, x.Len(), math.MaxInt} {
				a.Restore(snap)
				a.Alloc()
				tried(t, a, tree.Head{Root: root, Height: height, Len: n})
			}
		}
	}
}

// TestPagesOfNoTree: also where pages lead back to themselves, are there twice, or have entries that stand elsewhere.
func TestPagesOfNoTree(t *testing.T) {
	for i, l := range [][]page.Node{
		{inner([]string{"m"}, 1, 1)},
		{inner(nil, 1)},
		{inner([]string{"b", "m"}, 2, 2, 2), leaf("a", "m", "z")},
		{inner([]string{"m"}, 2, 1), leaf("a", "m")},
		{inner([]string{"m"}, 2, 3), inner([]string{"c"}, 1, 2), leaf("z")},
		{inner(nil, 2), leaf("a")},
		{inner(nil, 2), inner(nil, 3), leaf("a")},
		{inner([]string{"m"}, 2, 3), leaf("y", "z"), leaf("a", "b")},
		{inner([]string{"m"}, 2, 3), leaf(wide(9, 400), "x", strings.Repeat("z", 400)), leaf()},
		{inner([]string{"m"}, 2, 3), leaf(wide(9, 400), strings.Repeat("z", 400)), leaf()},
		{inner([]string{"m"}, 2, 9), leaf("a"), leaf("m")},
		{inner([]string{"m"}, 9, 2), leaf("m"), leaf("m")},
		{inner([]string{"m"}, 2, 3), leaf("a"), inner(nil, 2)},
		{inner([]string{"m"}, 2, 2), leaf("a", "m", "z")},
	} {
		for _, height := range []int{1, 2, 3, 4, 60, api.MaxPages, api.MaxPages + 1, math.MaxInt} {
			for root := range len(l) {
				r := raised(func() { tried(t, laid(t, l...), tree.Head{Root: root + 1, Height: height, Len: 3}) })
				if r != nil {
					t.Error(i, height, root, r)
				}
			}
		}
	}
}

// TestPagesManyTimesOver: a leaf to which more ways lead than anybody could go.
func TestPagesManyTimesOver(t *testing.T) {
	const height = 60
	var l []page.Node
	for i := range height - 1 {
		l = append(l, inner([]string{"m"}, i+2, i+2))
	}
	a := laid(t, append(l, leaf("a", "z"))...)
	h := tree.Head{Root: 1, Height: height, Len: 2}
	n := 0
	tree.Open(a, h).Each("", "", func(string) bool {
		n++
		return true
	})
	if n > 2*api.MaxPages {
		t.Error(n)
	}
	tried(t, a, h)
}

// TestRefusedAmongPagesOfNoTree: an entry that would go up stands beyond the root's, so that no right root can be made of it.
func TestRefusedAmongPagesOfNoTree(t *testing.T) {
	z := strings.Repeat("z", 400)
	a := laid(t, inner([]string{"m"}, 2, 3), leaf(z[1:], z), leaf())
	x := tree.Open(a, tree.Head{Root: 1, Height: 2, Len: 2})
	refused(t, a, x, strings.Repeat("a", 400), api.ErrArg)
	if e := x.Insert("a"); e != api.OK {
		t.Error("where nothing goes up:", e)
	}
}
