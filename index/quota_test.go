package index_test

import (
	"maps"
	"slices"
	"testing"

	"tripwire/api"
	"tripwire/arena"
	"tripwire/index"
)

// fewPages are quotas with which fewer pages are left than the height and one.
func fewPages(a *arena.Arena, height int) []int {
	l := []int{0, 1, a.Used() / 2, a.Used() - 1}
	for left := range height + 1 {
		l = append(l, a.Used()+left)
	}
	return l
}

func TestAddWithFewPagesLeft(t *testing.T) {
	for height := 1; height <= 4; height++ {
		a, x, m := high(t, height)
		last := m[len(m)-1].v
		for _, quota := range fewPages(a, height) {
			a.Limit(quota)
			for _, v := range []api.Value{{}, number(1), wide(1), wide(3), text("\xff"), m[0].v, last} {
				refusedAdd(t, a, x, v, 3, api.ErrQuota)
				refusedAdd(t, a, x, v, api.MaxNum, api.ErrQuota)
			}
			refusedAdd(t, a, x, m[0].v, m[0].id, api.ErrThere)
			refusedAdd(t, a, x, last, 4, api.ErrThere)
			refusedAdd(t, a, x, last, -1, api.ErrArg)
			refusedAdd(t, a, x, boolean(2), 3, api.ErrArg)
		}
		alone(t, a, x, m)
		for _, v := range []api.Value{wide(3), {}, m[0].v, last, text("\xff")} {
			a.Limit(a.Used() + x.Height())
			refusedAdd(t, a, x, v, 3, api.ErrQuota)
			a.Limit(a.Used() + x.Height() + 1)
			put(t, x, &m, v, 3)
			alone(t, a, x, m)
		}
	}
}

// TestAddWithJustEnoughPages fills an index from below, with never more than the height and one left.
func TestAddWithJustEnoughPages(t *testing.T) {
	a, x := fresh(t, api.MaxPages)
	var m model
	for i := range 700 {
		a.Limit(a.Used() + x.Height() + 1)
		put(t, x, &m, wide(i*389%700), i%5)
	}
	alone(t, a, x, m)
	if x.Height() < 3 {
		t.Error(x.Height())
	}
}

// TestCutWithNoPageLeft cuts all pairs, in several orders, while nobody may take a page.
func TestCutWithNoPageLeft(t *testing.T) {
	for height := 1; height <= 3; height++ {
		for _, by := range []int{0, 1, 7, 17} {
			a, x, m := high(t, height)
			a.Limit(0)
			for i := 0; len(m) > 0; i += by {
				used, p := a.Used(), m[i%len(m)]
				take(t, x, &m, p.v, p.id)
				if a.Used() > used {
					t.Fatal("a Cut took pages")
				}
				alone(t, a, x, m)
			}
			if x.Height() != 1 || a.Used() != 1 {
				t.Error(x.Head(), a.Used())
			}
		}
	}
}

// TestCutMakesRoom: where no page is left, what Cuts gave back makes room for an Add.
func TestCutMakesRoom(t *testing.T) {
	for height := 2; height <= 4; height++ {
		a, x, m := high(t, height)
		a.Limit(a.Used())
		for a.Left() < x.Height()+1 {
			refusedAdd(t, a, x, number(1), 1, api.ErrQuota)
			take(t, x, &m, m[0].v, m[0].id)
		}
		if len(m) == 0 {
			t.Error("all pairs are cut")
		}
		put(t, x, &m, number(1), 1)
		alone(t, a, x, m)
	}
}

// TestFillsAnArena: pairs are added till no more goes; all that went are there, and none of the others.
func TestFillsAnArena(t *testing.T) {
	for quota := 1; quota < 60; quota += 3 {
		a, x := fresh(t, quota)
		var m model
		for i := range 1000 {
			v, id := wide(i*389%1000), i%3
			if a.Left() < x.Height()+1 {
				if e := x.Add(v, id); e != api.ErrQuota {
					t.Fatal(quota, v, id, e)
				}
				continue
			}
			put(t, x, &m, v, id)
		}
		if a.Used() > quota {
			t.Error(quota, a.Used())
		}
		alone(t, a, x, m)
	}
}

// other is one more index in an arena, with wide texts.
func other(t *testing.T, a *arena.Arena, n int) (*index.Index, model) {
	t.Helper()
	x, e := index.New(a)
	if e != api.OK {
		t.Fatal(e)
	}
	var m model
	for i := range n {
		put(t, x, &m, wide(i), 7)
	}
	return x, m
}

// TestTwoIndexes: indexes in one arena know nothing of one another, and share what is left.
func TestTwoIndexes(t *testing.T) {
	a, x, m := high(t, 3)
	a.Alloc()
	y, n := other(t, a, 200)
	for i := range 200 {
		put(t, x, &m, wide(i), 7) // it is there in the other one
		refusedAdd(t, a, x, wide(i), 7, api.ErrThere)
		take(t, y, &n, wide(i), 7)
		refusedCut(t, a, y, wide(i), 7, api.ErrName)
		check(t, a, x, m)
		check(t, a, y, n)
		if slices.ContainsFunc(x.Pages(), func(p int) bool { return slices.Contains(y.Pages(), p) }) {
			t.Fatal("they share pages")
		}
		if len(x.Pages())+len(y.Pages())+1 != a.Used() {
			t.Fatal(x.Pages(), y.Pages(), a.Pages())
		}
	}
	z, _ := other(t, a, 40)
	a.Limit(a.Used())
	refusedAdd(t, a, x, number(1), 1, api.ErrQuota)
	if e := z.Drop(); e != api.OK {
		t.Error(e)
	}
	check(t, a, x, m)
	check(t, a, y, n)
	put(t, x, &m, number(1), 1)
	check(t, a, x, m)
}

func TestDrop(t *testing.T) {
	for _, n := range []int{0, 1, 3, 30, 300} {
		a, _ := arena.New(api.MaxPages)
		a.Alloc()
		x, _ := other(t, a, n)
		y, m := other(t, a, 100)
		page, _ := a.Alloc()
		kept := append([]int{1, page}, y.Pages()...)
		slices.Sort(kept)
		was := held(a)
		maps.DeleteFunc(was, func(n int, _ string) bool { return !slices.Contains(kept, n) })
		a.Limit(0) // to give back asks for nothing
		if e := x.Drop(); e != api.OK {
			t.Error(n, e)
		}
		a.Limit(api.MaxPages)
		if !slices.Equal(a.Pages(), kept) || !maps.Equal(was, held(a)) {
			t.Errorf("%d pairs: %v in use, not %v", n, a.Pages(), kept)
		}
		over(t, "dropped", x)
		check(t, a, y, m)
		if !maps.Equal(was, held(a)) {
			t.Error("the calls of a dropped index changed something")
		}
	}
}
