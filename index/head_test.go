package index_test

import (
	"maps"
	"math"
	"slices"
	"strings"
	"testing"

	"tripwire/api"
	"tripwire/arena"
	"tripwire/index"
	"tripwire/page"
	"tripwire/tree"
)

// over holds that an index was dropped.
func over(t *testing.T, name string, x *index.Index) {
	t.Helper()
	for _, v := range append(someValues(), wrongValues()...) {
		for _, id := range append(wrongIDs(), edgeIDs()...) {
			if e, f := x.Add(v, id), x.Cut(v, id); e != api.ErrArg || f != api.ErrArg {
				t.Fatalf("%s: Add and Cut of %v, %d: %v, %v", name, v, id, e, f)
			}
		}
		if id, there := x.First(v); id != 0 || there {
			t.Errorf("%s: First of %v: %d, %v", name, v, id, there)
		}
		for _, b := range kinds(v) {
			if told(x, b, b) != nil || told(x, b, index.Bound{}) != nil || told(x, index.Bound{}, b) != nil {
				t.Errorf("%s: Each tells something", name)
			}
			x.Each(b, b, nil)
		}
	}
	if x.Len() != 0 || x.Height() != 0 || len(x.Pages()) != 0 || x.Head() != (tree.Head{}) {
		t.Errorf("%s: %d, %d, %v, %v", name, x.Len(), x.Height(), x.Pages(), x.Head())
	}
	for range 2 {
		if e := x.Drop(); e != api.ErrArg {
			t.Errorf("%s: Drop: %v", name, e)
		}
	}
}

func TestNoIndex(t *testing.T) {
	over(t, "nil", nil)
	over(t, "the zero Index", &index.Index{})
	a, _ := fresh(t, 10)
	over(t, "the zero Head's", index.Open(a, tree.Head{}))
	for _, h := range []tree.Head{{}, {Root: 1, Height: 1}, {Root: -1, Height: -1, Len: -1}} {
		if x := index.Open(nil, h); x != nil {
			t.Error(x)
		}
	}
}

// TestHeadOfDropped: where the head of an index that was dropped is opened, that is one that was dropped as well.
func TestHeadOfDropped(t *testing.T) {
	a, x, _ := high(t, 2)
	x.Drop()
	over(t, "opened", index.Open(a, x.Head()))
	if a.Used() != 0 {
		t.Error(a.Pages())
	}
}

func TestOpen(t *testing.T) {
	for height := 1; height <= 4; height++ {
		a, was, m := high(t, height)
		x := index.Open(a, was.Head())
		if x == nil || x == was || x.Head() != was.Head() {
			t.Fatal(x)
		}
		alone(t, a, x, m)
		a.Limit(a.Used() + height)
		refusedAdd(t, a, x, wide(3), 1, api.ErrQuota)
		refusedAdd(t, a, x, m[0].v, m[0].id, api.ErrThere)
		refusedCut(t, a, x, m[0].v, 3, api.ErrName)
		refusedCut(t, a, x, m[0].v, -1, api.ErrArg)
		a.Limit(api.MaxPages)
		put(t, x, &m, wide(3), 1)
		take(t, x, &m, m[0].v, m[0].id)
		put(t, x, &m, api.Value{}, 0)
		alone(t, a, x, m)
		if e := x.Drop(); e != api.OK || a.Used() != 0 {
			t.Error(e, a.Used())
		}
	}
}

// TestHeadIsTheTrees: what an index's head tells is a tree that has its entries.
func TestHeadIsTheTrees(t *testing.T) {
	a, x := fresh(t, api.MaxPages)
	if x.Head() != (tree.Head{Root: 1, Height: 1}) {
		t.Error(x.Head())
	}
	var m model
	put(t, x, &m, number(1), 1)
	put(t, x, &m, text("a"), 2)
	if x.Head() != (tree.Head{Root: 1, Height: 1, Len: 2}) {
		t.Error(x.Head())
	}
	y, e := tree.New(a)
	if e != api.OK || y.Insert(key(text("b"))+bytes(5)) != api.OK || y.Insert(key(api.Value{})+bytes(3)) != api.OK {
		t.Fatal(e)
	}
	check(t, a, index.Open(a, y.Head()), model{{api.Value{}, 3}, {text("b"), 5}})
}

// TestOpenBehindRestore: whatever was done since, the pairs of a picture are there again, and it goes on as it did.
func TestOpenBehindRestore(t *testing.T) {
	for height := 1; height <= 3; height++ {
		a, x, m := high(t, height)
		was, snap, head := held(a), a.Snap(), x.Head()
		for round, ruin := range []func(){
			func() {},
			func() { x.Drop() },
			func() {
				for _, p := range m {
					x.Add(p.v, 3)
					x.Add(wide(5000+len(p.v.S)), p.id)
				}
			},
			func() {
				for _, p := range m {
					x.Cut(p.v, p.id)
				}
			},
			func() {
				x.Drop()
				other(t, a, 100)
			},
		} {
			ruin()
			if e := a.Restore(snap); e != api.OK {
				t.Fatal(e)
			}
			x = index.Open(a, head)
			alone(t, a, x, m)
			if !maps.Equal(was, held(a)) {
				t.Error(round, "the pages aren't what they were")
			}
		}
		for i, p := range slices.Clone(m) {
			if i%2 == 0 {
				take(t, x, &m, p.v, p.id)
			}
			put(t, x, &m, p.v, 100+i)
			alone(t, a, x, m)
		}
	}
}

// tried is all calls of an index: none may panic, and one that is refused changes nothing.
func tried(t *testing.T, a *arena.Arena, head tree.Head) {
	t.Helper()
	x := index.Open(a, head)
	was, now := held(a), x.Head()
	refuse := func(what string, e api.Errno) {
		t.Helper()
		if e != api.OK && (!maps.Equal(was, held(a)) || x.Head() != now) {
			t.Errorf("%v: %s: it was refused with %v, but something changed", head, what, e)
		}
		was, now = held(a), x.Head()
	}
	for _, v := range []api.Value{{}, {N: 1}, boolean(1), number(5), text(""), text("a"), wide(3), text("\xff")} {
		for _, id := range []int{-1, 0, 2, api.MaxNum, math.MaxInt} {
			refuse("Add", x.Add(v, id))
			refuse("Cut", x.Cut(v, id+1))
			refuse("Add", x.Add(v, id+1))
		}
		for _, b := range kinds(v) {
			told(x, b, index.Bound{})
			told(x, index.Bound{}, b)
			told(x, b, b)
		}
		if id, there := x.First(v); !there && id != 0 {
			t.Error(id)
		}
		refuse("Cut", x.Cut(v, 0))
		x.Len()
		x.Height()
		x.Pages()
	}
	refuse("Drop", x.Drop())
}

// TestHeadsOfNoIndex: whatever a head says, all calls end, and none panics.
func TestHeadsOfNoIndex(t *testing.T) {
	t.Parallel()
	a, x, m := high(t, 3)
	snap, roots := a.Snap(), []int{math.MinInt, -1, 0, api.MaxPages, api.MaxPages + 1, math.MaxInt}
	blank, _ := a.Alloc()
	for n := 1; n < blank; n += 3 {
		roots = append(roots, n)
	}
	roots = append(roots, x.Head().Root, blank, blank+1)
	for _, root := range roots {
		for _, height := range []int{math.MinInt, -1, 0, 1, 2, 3, 4, api.MaxPages, api.MaxPages + 1, math.MaxInt} {
			for _, n := range []int{math.MinInt, 0, len(m), math.MaxInt} {
				a.Restore(snap)
				a.Alloc()
				tried(t, a, tree.Head{Root: root, Height: height, Len: n})
			}
		}
	}
	a.Restore(snap)
	alone(t, a, index.Open(a, x.Head()), m)
}

func leaf(l ...string) page.Node { return page.Node{Leaf: true, Recs: l} }

func inner(recs []string, kids ...int) page.Node { return page.Node{Recs: recs, Kids: kids} }

// laid is an arena with these nodes as its pages, from 1 on.
func laid(t *testing.T, l ...page.Node) *arena.Arena {
	t.Helper()
	a, _ := arena.New(api.MaxPages)
	for _, n := range l {
		at, _ := a.Alloc()
		b, e := page.Encode(n)
		if e != api.OK {
			t.Fatal(e)
		}
		a.Store(at, b)
	}
	return a
}

// noPairs are entries that are no pairs', rising.
func noPairs() []string {
	l := []string{
		"\x00", "\x00" + bytes(1)[:7], "\x00" + bytes(1) + "\x00", "\x00" + bytes(api.MaxNum+1), "\x00" + bytes(-1), "\x01", "\x01\x02" + bytes(1),
		key(number(1)), key(number(2))[:8], "\x03", key(text("a")), key(text(strings.Repeat("b", 25))) + bytes(1), "\x03c" + bytes(1),
		"\x04", "\x04" + bytes(1), strings.Repeat("\xff", 400),
	}
	slices.Sort(l)
	return l
}

// TestEntriesOfNoPair: those that are no pairs' aren't told, nor do they end a walk.
func TestEntriesOfNoPair(t *testing.T) {
	m := model{{api.Value{}, 1}, {boolean(1), 0}, {number(1), 5}, {text("a"), 0}, {text("a"), api.MaxNum}, {text("b"), 2}}
	l := noPairs()
	for _, p := range m {
		l = append(l, key(p.v)+bytes(p.id))
	}
	slices.Sort(l)
	a := laid(t, inner([]string{"\x03"}, 2, 3), leaf(slices.DeleteFunc(slices.Clone(l), func(s string) bool { return s >= "\x03" })...),
		leaf(slices.DeleteFunc(slices.Clone(l), func(s string) bool { return s < "\x03" })...))
	x := index.Open(a, tree.Head{Root: 1, Height: 2, Len: len(l)})
	for _, v := range someValues() {
		for _, lo := range kinds(v) {
			for _, hi := range kinds(text("a")) {
				if got, want := told(x, lo, hi), m.between(lo, hi); !slices.Equal(got, want) {
					t.Errorf("%+v to %+v: %v, not %v", lo, hi, got, want)
				}
			}
		}
		id, there := x.First(v)
		if least, has := m.first(v); id != least || there != has {
			t.Errorf("First of %v: %d, %v", v, id, there)
		}
	}
	if x.Len() != len(l) {
		t.Error(x.Len())
	}
}

// TestPagesOfNoIndex: entries that are no pairs', that stand elsewhere than they should, and pages that are there twice.
func TestPagesOfNoIndex(t *testing.T) {
	t.Parallel()
	five, a, three := key(number(5)), key(text("a")), key(wide(3))
	long := strings.Repeat("x", 390)
	for i, l := range [][]page.Node{
		{leaf(noPairs()...)},
		{leaf("\x00"+bytes(0), five+bytes(0), a+bytes(2), key(text("\xff"))+bytes(api.MaxNum))},
		{inner([]string{five}, 1, 1)},
		{inner([]string{five, a}, 2, 2, 2), leaf("\x00"+bytes(0), five+bytes(0), three+bytes(1), a+bytes(2))},
		{inner([]string{five}, 2, 3), leaf(three+bytes(2), a+bytes(1)), leaf("\x00" + bytes(0))},
		{inner([]string{five}, 2, 3), leaf("\x00"+long, a+long), leaf()},
		{inner([]string{"\x00"}, 2, 3), leaf("\x00"+long, a+long), leaf("\x00" + long)},
		{inner([]string{a}, 2, 9), leaf(five + bytes(0)), leaf(a + bytes(0))},
		{inner([]string{a}, 2, 3), leaf(five + bytes(0)), inner(nil, 2)},
		{inner([]string{five + long, a + long}, 2, 3, 4), leaf("\x00"+long, five+bytes(2)), leaf(three + bytes(1)), leaf(a + long)},
	} {
		for _, height := range []int{1, 2, 3, 60, api.MaxPages} {
			for root := range len(l) {
				r := raised(func() { tried(t, laid(t, l...), tree.Head{Root: root + 1, Height: height, Len: 3}) })
				if r != nil {
					t.Error(i, height, root, r)
				}
			}
		}
	}
}
