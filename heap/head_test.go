package heap_test

import (
	"maps"
	"math"
	"strings"
	"testing"

	"tripwire/api"
	"tripwire/arena"
	"tripwire/heap"
	"tripwire/page"
	"tripwire/tree"
)

// other is one more heap in an arena, with wide rows.
func other(t *testing.T, a *arena.Arena, rows int) (*heap.Heap, model) {
	t.Helper()
	h, e := heap.New(a)
	if e != api.OK {
		t.Fatal(e)
	}
	m := wides(rows)
	fill(t, h, m, m.ids())
	return h, m
}

// over holds that a heap was dropped.
func over(t *testing.T, name string, h *heap.Heap) {
	t.Helper()
	rows := append(wrongRows(), nil, one("a"), widest(1))
	for _, id := range append(wrongIDs(), edgeIDs()...) {
		for _, l := range rows {
			if e, f := h.Put(id, l), h.Set(id, l); e != api.ErrArg || f != api.ErrArg {
				t.Fatalf("%s: Put and Set of %d: %v, %v", name, id, e, f)
			}
		}
		if l, e := h.Get(id); l != nil || e != api.ErrName {
			t.Errorf("%s: Get of %d: %v, %v", name, id, l, e)
		}
		if e := h.Cut(id); e != api.ErrName {
			t.Errorf("%s: Cut of %d: %v", name, id, e)
		}
		if told(h, id) != nil {
			t.Errorf("%s: Each tells something", name)
		}
		h.Each(id, nil)
	}
	if h.Len() != 0 || h.Height() != 0 || len(h.Pages()) != 0 || h.Head() != (tree.Head{}) {
		t.Errorf("%s: %d, %d, %v, %v", name, h.Len(), h.Height(), h.Pages(), h.Head())
	}
	for range 2 {
		if e := h.Drop(); e != api.ErrArg {
			t.Errorf("%s: Drop: %v", name, e)
		}
	}
}

func TestNoHeap(t *testing.T) {
	over(t, "nil", nil)
	over(t, "the zero Heap", &heap.Heap{})
	a, _ := fresh(t, 10)
	over(t, "the zero Head's", heap.Open(a, tree.Head{}))
	for _, h := range []tree.Head{{}, {Root: 1, Height: 1}, {Root: -1, Height: -1, Len: -1}} {
		if x := heap.Open(nil, h); x != nil {
			t.Error(x)
		}
	}
}

func TestOpen(t *testing.T) {
	for height := 1; height <= 4; height++ {
		a, h, m := high(t, height)
		x := heap.Open(a, h.Head())
		if x == nil || x == h || x.Head() != h.Head() {
			t.Fatal(x)
		}
		alone(t, a, x, m)
		a.Limit(a.Used() + height)
		refusedPut(t, a, x, 1, nil, api.ErrQuota)
		refusedPut(t, a, x, 2, nil, api.ErrThere)
		refusedSet(t, a, x, 2, nil, api.ErrQuota)
		refusedSet(t, a, x, 1, nil, api.ErrName)
		a.Limit(api.MaxPages)
		if x.Set(2, one("a")) != api.OK || x.Cut(4) != api.OK || x.Put(1, wide(1)) != api.OK {
			t.Error("it doesn't go on")
		}
		delete(m, 4)
		m[1], m[2] = wide(1), one("a")
		alone(t, a, x, m)
		if e := x.Drop(); e != api.OK || a.Used() != 0 {
			t.Error(e, a.Used())
		}
	}
}

// TestHeadIsTheTrees: what a heap's head tells is a tree that has its entries.
func TestHeadIsTheTrees(t *testing.T) {
	a, h := fresh(t, api.MaxPages)
	if h.Head() != (tree.Head{Root: 1, Height: 1}) {
		t.Error(h.Head())
	}
	fill(t, h, model{1: nil, 2: one("a")}, []int{1, 2})
	if h.Head() != (tree.Head{Root: 1, Height: 1, Len: 2}) {
		t.Error(h.Head())
	}
	x, e := tree.New(a)
	if e != api.OK || x.Insert(key(5)+sum(one("b"))) != api.OK || x.Insert(key(3)) != api.OK {
		t.Fatal(e)
	}
	check(t, a, heap.Open(a, x.Head()), model{5: one("b"), 3: nil})
}

// TestOpenBehindRestore: whatever was done since, the rows of a picture are there again, and it goes on as it did.
func TestOpenBehindRestore(t *testing.T) {
	for height := 1; height <= 3; height++ {
		a, h, m := high(t, height)
		was, snap, head := held(a), a.Snap(), h.Head()
		for round, ruin := range []func(){
			func() {},
			func() { h.Drop() },
			func() {
				for id := range m {
					h.Set(id, one("ruined"))
					h.Put(id+1, wide(id))
				}
			},
			func() {
				for id := range m {
					h.Cut(id)
				}
			},
			func() {
				h.Drop()
				other(t, a, 40)
			},
		} {
			ruin()
			if e := a.Restore(snap); e != api.OK {
				t.Fatal(e)
			}
			h = heap.Open(a, head)
			alone(t, a, h, m)
			if !maps.Equal(was, held(a)) {
				t.Error(round, "the pages aren't what they were")
			}
		}
		for _, id := range m.ids() {
			m[id+1] = wide(id)
			fill(t, h, m, []int{id + 1})
			m[id] = one("on")
			h.Set(id, m[id])
			alone(t, a, h, m)
		}
	}
}

// tried is all calls of a heap: none may panic, and one that is refused changes nothing.
func tried(t *testing.T, a *arena.Arena, head tree.Head) {
	t.Helper()
	h := heap.Open(a, head)
	was, now := held(a), h.Head()
	refuse := func(what string, e api.Errno) {
		t.Helper()
		if e != api.OK && (!maps.Equal(was, held(a)) || h.Head() != now) {
			t.Errorf("%v: %s: it was refused with %v, but something changed", head, what, e)
		}
		was, now = held(a), h.Head()
	}
	for _, id := range []int{-1, 0, 1, 2, 3, 9, 30, 256, api.MaxNum, math.MaxInt} {
		for _, l := range [][]api.Value{nil, one("a"), widest(1), one(strings.Repeat("x", 25))} {
			refuse("Set", h.Set(id, l))
			refuse("Put", h.Put(id, l))
			if k, e := h.Get(id); e != api.OK && (k != nil || e != api.ErrName) {
				t.Error(k, e)
			}
			refuse("Set", h.Set(id, widest(id&255)))
		}
		told(h, id)
		refuse("Cut", h.Cut(id))
		refuse("Cut", h.Cut(id))
		h.Len()
		h.Height()
		h.Pages()
	}
	refuse("Drop", h.Drop())
}

// TestHeadsOfNoHeap: whatever a head says, all calls end, and none panics.
func TestHeadsOfNoHeap(t *testing.T) {
	a, h, m := high(t, 3)
	snap, roots := a.Snap(), []int{math.MinInt, -1, 0, api.MaxPages, api.MaxPages + 1, math.MaxInt}
	blank, _ := a.Alloc()
	for n := range blank + 2 {
		roots = append(roots, n)
	}
	for _, root := range roots {
		for _, height := range []int{math.MinInt, -1, 0, 1, 2, 3, 4, api.MaxPages, api.MaxPages + 1, math.MaxInt} {
			for _, n := range []int{math.MinInt, 0, len(m), math.MaxInt} {
				a.Restore(snap)
				a.Alloc()
				tried(t, a, tree.Head{Root: root, Height: height, Len: n})
			}
		}
	}
	a.Restore(snap)
	alone(t, a, heap.Open(a, h.Head()), m)
}

func leaf(l ...string) page.Node { return page.Node{Leaf: true, Recs: l} }

func inner(recs []string, kids ...int) page.Node { return page.Node{Recs: recs, Kids: kids} }

// laid is an arena with these nodes as its pages, from 1 on.
func laid(t *testing.T, l ...page.Node) *arena.Arena {
	t.Helper()
	a, _ := arena.New(api.MaxPages)
	for _, n := range l {
		at, _ := a.Alloc()
		b, e := page.Encode(n)
		if e != api.OK {
			t.Fatal(e)
		}
		a.Store(at, b)
	}
	return a
}

// TestPagesOfNoHeap: entries that are no rows', that stand elsewhere than they should, and pages that are there twice.
func TestPagesOfNoHeap(t *testing.T) {
	long := sum(widest(7))
	for i, l := range [][]page.Node{
		{leaf("a", "b")},
		{leaf(key(0)[:7], key(1)+"\x04", key(2)+"\x02", key(3)+sum(tooMany()), "x")},
		{leaf(key(api.MaxNum+1), "\xff\xff\xff\xff\xff\xff\xff\xff", strings.Repeat("\xff", 400))},
		{leaf(key(1)+"\x00", key(1)+"\x01\x00", key(1)+"\x01\x01", key(2))},
		{inner([]string{key(2)}, 1, 1)},
		{inner([]string{key(1), key(3)}, 2, 2, 2), leaf(key(0), key(1), key(2), key(3))},
		{inner([]string{key(9)}, 2, 3), leaf(key(9), key(30)), leaf(key(0), key(1)+long)},
		{inner([]string{key(9)}, 2, 3), leaf(key(30)+long, key(256)+long, key(257)+long), leaf()},
		{inner([]string{key(9)}, 2, 3), leaf(key(1)+long, key(2)+long, key(3)+long), leaf(key(2) + long)},
		{inner([]string{key(9)}, 2, 9), leaf(key(1)), leaf(key(9))},
		{inner([]string{key(9)}, 2, 3), leaf(key(1)), inner(nil, 2)},
		{inner([]string{strings.Repeat("\x00", 400)}, 2, 3), leaf(key(0)), leaf(key(0)+"\x00", key(1), key(2))},
		{inner([]string{key(2) + strings.Repeat("\x00", 392), key(3) + strings.Repeat("x", 392)}, 2, 3, 4), leaf(key(1)+long, key(2)+long), leaf(key(3) + long), leaf()},
	} {
		for _, height := range []int{1, 2, 3, 60, api.MaxPages} {
			for root := range len(l) {
				r := raised(func() { tried(t, laid(t, l...), tree.Head{Root: root + 1, Height: height, Len: 3}) })
				if r != nil {
					t.Error(i, height, root, r)
				}
			}
		}
	}
}

// tooMany is one value more than a row may have.
func tooMany() []api.Value {
	l := row(number(1))
	for len(l) < 7 {
		l = append(l, api.Value{})
	}
	return l
}

// TestEntriesOfNoRow: those that are no rows' aren't told.
func TestEntriesOfNoRow(t *testing.T) {
	a := laid(t, leaf(key(0)[:7], key(1)+"\x04", key(2)+"\x02", key(3)+sum(tooMany()), key(4)+"\x00", key(api.MaxNum+1), "x"))
	h := heap.Open(a, tree.Head{Root: 1, Height: 1, Len: 7})
	if l := told(h, 0); len(l) != 1 || l[0].ID != 4 || len(l[0].Values) != 1 {
		t.Error(l)
	}
	for id := range 4 {
		if l, e := h.Get(id); l != nil || e != api.ErrName {
			t.Error(id, l, e)
		}
	}
}

// TestRefusedAmongPagesOfNoHeap: where a row's entry can be taken out, but the new one not put in, as what would go up stands beyond the root's entry, the old one is there again.
func TestRefusedAmongPagesOfNoHeap(t *testing.T) {
	long := strings.Repeat("x", 392)
	a := laid(t, inner([]string{key(2)}, 2, 3), leaf(key(1), key(5)+long, key(6)+long), leaf(key(7)+long))
	h := heap.Open(a, tree.Head{Root: 1, Height: 2, Len: 4})
	refusedSet(t, a, h, 1, widest(1), api.ErrArg)
	if l, e := h.Get(1); len(l) != 0 || e != api.OK {
		t.Error(l, e)
	}
	if e := h.Set(1, one("a")); e != api.OK {
		t.Error("where nothing goes up:", e)
	}
}
