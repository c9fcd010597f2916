package heap_test

import (
	"maps"
	"slices"
	"testing"

	"tripwire/api"
	"tripwire/arena"
)

// fewPages are quotas with which fewer pages are left than the height and one.
func fewPages(a *arena.Arena, height int) []int {
	l := []int{0, 1, a.Used() / 2, a.Used() - 1}
	for left := range height + 1 {
		l = append(l, a.Used()+left)
	}
	return l
}

func TestPutWithFewPagesLeft(t *testing.T) {
	for height := 1; height <= 4; height++ {
		a, h, m := high(t, height)
		next := 2*len(m) + 2
		for _, quota := range fewPages(a, height) {
			a.Limit(quota)
			for _, id := range []int{0, 1, 3, next, api.MaxNum} {
				refusedPut(t, a, h, id, wide(1), api.ErrQuota)
				refusedPut(t, a, h, id, nil, api.ErrQuota)
			}
			refusedPut(t, a, h, 2, wide(1), api.ErrThere)
			refusedPut(t, a, h, next-2, nil, api.ErrThere)
			refusedPut(t, a, h, -1, nil, api.ErrArg)
			refusedPut(t, a, h, 2, one("1234567890123456789012345"), api.ErrArg)
		}
		alone(t, a, h, m)
		for _, id := range []int{next, 3, 0} {
			a.Limit(a.Used() + h.Height() + 1)
			m[id] = wide(id)
			fill(t, h, m, []int{id})
			alone(t, a, h, m)
		}
	}
}

func TestSetWithFewPagesLeft(t *testing.T) {
	for height := 1; height <= 4; height++ {
		a, h, m := high(t, height)
		for _, quota := range fewPages(a, height) {
			a.Limit(quota)
			for _, id := range m.ids() {
				refusedSet(t, a, h, id, m[id], api.ErrQuota) // it is what it was
				refusedSet(t, a, h, id, widest(1), api.ErrQuota)
				refusedSet(t, a, h, id, nil, api.ErrQuota)
			}
			refusedSet(t, a, h, 3, nil, api.ErrName)
			refusedSet(t, a, h, 2*len(m)+2, wide(1), api.ErrName)
			refusedSet(t, a, h, -1, nil, api.ErrArg)
			refusedSet(t, a, h, 2, one("1234567890123456789012345"), api.ErrArg)
		}
		alone(t, a, h, m)
	}
}

// TestSetWithJustEnoughPages: rows become the same, longer and shorter, each time with just the height and one left.
func TestSetWithJustEnoughPages(t *testing.T) {
	highest := 0
	for height := 1; height <= 5; height++ {
		a, h, m := high(t, height)
		for i, next := range []func(id int) []api.Value{
			func(id int) []api.Value { return m[id] },
			widest,
			func(int) []api.Value { return nil },
			func(id int) []api.Value { return row(number(id), text("a")) },
			wide,
			func(id int) []api.Value { return someRows()[id%len(someRows())] },
			widest,
		} {
			for k, id := range m.ids() {
				if k%2 == i%2 {
					continue // so that rows of all sizes stand beside one another
				}
				a.Limit(a.Used() + h.Height())
				refusedSet(t, a, h, id, next(id), api.ErrQuota)
				a.Limit(a.Used() + h.Height() + 1)
				m[id] = next(id)
				if e := h.Set(id, m[id]); e != api.OK {
					t.Fatal(height, i, id, e)
				}
				alone(t, a, h, m)
				highest = max(highest, h.Height())
			}
		}
	}
	if highest < 4 {
		t.Error(highest)
	}
}

// TestCutWithNoPageLeft cuts all rows, in several orders, while nobody may take a page.
func TestCutWithNoPageLeft(t *testing.T) {
	for height := 1; height <= 4; height++ {
		for _, by := range []int{1, 7, 17} {
			a, h, m := high(t, height)
			for i := 0; len(m) > 0; i += by {
				a.Limit(0)
				id := m.ids()[i%len(m)]
				if e := h.Cut(id); e != api.OK {
					t.Fatal(height, id, e)
				}
				delete(m, id)
				alone(t, a, h, m)
			}
			if h.Height() != 1 || a.Used() != 1 {
				t.Error(h.Head(), a.Used())
			}
		}
	}
}

// TestCutMakesRoom: where no page is left, what is given back by Cuts makes room for a Put and a Set.
func TestCutMakesRoom(t *testing.T) {
	for height := 2; height <= 4; height++ {
		a, h, m := high(t, height)
		a.Limit(a.Used())
		refusedPut(t, a, h, 1, nil, api.ErrQuota)
		refusedSet(t, a, h, m.ids()[len(m)-1], nil, api.ErrQuota)
		for a.Left() < h.Height()+1 {
			id := m.ids()[0]
			if e := h.Cut(id); e != api.OK {
				t.Fatal(e)
			}
			delete(m, id)
		}
		if len(m) == 0 {
			t.Error("all rows are cut")
		}
		m[1] = nil
		fill(t, h, m, []int{1})
		id := m.ids()[len(m)-1]
		m[id] = one("z")
		if e := h.Set(id, m[id]); e != api.OK {
			t.Error(height, e)
		}
		alone(t, a, h, m)
	}
}

// TestFillsAnArena: rows are put till no more goes; all that went are there, and none of the others.
func TestFillsAnArena(t *testing.T) {
	for quota := 1; quota < 60; quota += 3 {
		a, h := fresh(t, quota)
		m := model{}
		for i := range 1000 {
			id, want := i*389%1000, api.OK
			if a.Left() < h.Height()+1 {
				want = api.ErrQuota
			}
			if e := h.Put(id, wide(id)); e != want {
				t.Fatal(quota, id, e, want)
			}
			if want == api.OK {
				m[id] = wide(id)
			}
		}
		if a.Used() > quota {
			t.Error(quota, a.Used())
		}
		alone(t, a, h, m)
	}
}

// TestTwoHeaps: heaps in one arena know nothing of one another, and share what is left.
func TestTwoHeaps(t *testing.T) {
	a, x, m := high(t, 3)
	a.Alloc()
	y, n := other(t, a, 40)
	for i := range 40 {
		id := m.ids()[i%len(m)]
		if e := x.Set(id, one("x")); e != api.OK {
			t.Fatal(e)
		}
		m[id] = one("x")
		if e := y.Cut(i + 1); e != api.OK {
			t.Fatal(e)
		}
		delete(n, i+1)
		check(t, a, x, m)
		check(t, a, y, n)
		if slices.ContainsFunc(x.Pages(), func(p int) bool { return slices.Contains(y.Pages(), p) }) {
			t.Fatal("they share pages")
		}
		if len(x.Pages())+len(y.Pages())+1 != a.Used() {
			t.Fatal(x.Pages(), y.Pages(), a.Pages())
		}
	}
	y, n = other(t, a, 40)
	a.Limit(a.Used())
	refusedPut(t, a, x, 1, nil, api.ErrQuota)
	if e := y.Drop(); e != api.OK {
		t.Error(e)
	}
	check(t, a, x, m)
	m[1] = nil
	fill(t, x, m, []int{1})
	check(t, a, x, m)
}

func TestDrop(t *testing.T) {
	for _, n := range []int{0, 1, 3, 10, 100} {
		a, _ := arena.New(api.MaxPages)
		a.Alloc()
		x, _ := other(t, a, n)
		y, m := other(t, a, 30)
		page, _ := a.Alloc()
		kept := append([]int{1, page}, y.Pages()...)
		slices.Sort(kept)
		was := held(a)
		maps.DeleteFunc(was, func(n int, _ string) bool { return !slices.Contains(kept, n) })
		a.Limit(0) // to give back asks for nothing
		if e := x.Drop(); e != api.OK {
			t.Error(n, e)
		}
		a.Limit(api.MaxPages)
		if !slices.Equal(a.Pages(), kept) || !maps.Equal(was, held(a)) {
			t.Errorf("%d rows: %v in use, not %v", n, a.Pages(), kept)
		}
		over(t, "dropped", x)
		check(t, a, y, m)
		if !maps.Equal(was, held(a)) {
			t.Error("the calls of a dropped heap changed something")
		}
	}
}
