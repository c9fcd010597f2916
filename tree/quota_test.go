package tree_test

import (
	"maps"
	"slices"
	"strings"
	"testing"

	"tripwire/api"
	"tripwire/arena"
	"tripwire/tree"
)

// high is a tree of a height, with entries of 400 bytes, and another entry that it hasn't.
func high(t *testing.T, height int) (*arena.Arena, *tree.Tree, []string, string) {
	t.Helper()
	a, x := fresh(t, api.MaxPages)
	var l []string
	for i := 0; x.Height() < height || len(l) < 2; i++ {
		l = append(l, wide(i, 400))
		x.Insert(l[i])
	}
	if x.Height() != height {
		t.Fatal(x.Height(), height)
	}
	return a, x, l, wide(len(l), 400)
}

// refused holds that an Insert is refused, and that nothing is done.
func refused(t *testing.T, a *arena.Arena, x *tree.Tree, s string, want api.Errno) {
	t.Helper()
	was, head, left, l := held(a), x.Head(), a.Left(), told(x)
	if e := x.Insert(s); e != want {
		t.Errorf("Insert of %s with %d left, height %d: %v, not %v", short(s), left, head.Height, e, want)
	}
	if !maps.Equal(was, held(a)) || x.Head() != head || a.Left() != left || !slices.Equal(told(x), l) {
		t.Errorf("Insert of %s: it was refused, but something was done", short(s))
	}
}

func TestInsertWithFewPagesLeft(t *testing.T) {
	for height := 1; height <= 4; height++ {
		a, x, l, s := high(t, height)
		for left := range height + 1 {
			a.Limit(a.Used() + left)
			refused(t, a, x, s, api.ErrQuota)
			refused(t, a, x, "a", api.ErrQuota)
			refused(t, a, x, l[0], api.ErrThere)
			refused(t, a, x, l[len(l)-1], api.ErrThere)
			refused(t, a, x, "", api.ErrArg)
			refused(t, a, x, strings.Repeat("x", 401), api.ErrArg)
		}
		for _, quota := range []int{0, a.Used() / 2, a.Used() - 1} {
			a.Limit(quota)
			refused(t, a, x, s, api.ErrQuota)
			refused(t, a, x, l[0], api.ErrThere)
			refused(t, a, x, "", api.ErrArg)
		}
		alone(t, a, x, l)
		a.Limit(a.Used() + height + 1)
		if e := x.Insert(s); e != api.OK {
			t.Error(height, e)
		}
		alone(t, a, x, append(l, s))
	}
}

// TestInsertWithJustEnoughPages: each Insert has just the height and one left; one by which the tree becomes higher takes them all.
func TestInsertWithJustEnoughPages(t *testing.T) {
	for name, by := range map[string]int{"rising": 1, "falling": 238, "mixed": 50} {
		a, x := fresh(t, api.MaxPages)
		var l []string
		for i := range 239 {
			height, used := x.Height(), a.Used()
			a.Limit(used + height)
			s := wide((i+1)*by%239, 400)
			refused(t, a, x, s, api.ErrQuota)
			a.Limit(used + height + 1)
			if e := x.Insert(s); e != api.OK {
				t.Fatal(name, i, e)
			}
			if x.Height() > height && (x.Height() != height+1 || a.Left() != 0) {
				t.Error(name, "higher, with", a.Left(), "left")
			}
			if a.Used() > used+height+1 {
				t.Error(name, "took", a.Used()-used)
			}
			l = with(l, s)
			alone(t, a, x, l)
		}
		if x.Height() < 5 {
			t.Error(name, x.Height())
		}
	}
}

func TestInsertGoesOnWithPages(t *testing.T) {
	for height := 1; height <= 3; height++ {
		a, x, l, s := high(t, height)
		other := filled(t, a, wides(8, 400))
		a.Limit(a.Used())
		refused(t, a, x, s, api.ErrQuota)
		if e := other.Drop(); e != api.OK || a.Left() < height+1 {
			t.Fatal(e, a.Left())
		}
		if e := x.Insert(s); e != api.OK {
			t.Error("behind a Drop of another tree:", height, e)
		}
		l = append(l, s)
		s += "x"
		s = s[1:]
		a.Limit(a.Used())
		refused(t, a, x, s, api.ErrQuota)
		a.Limit(api.MaxPages)
		if e := x.Insert(s); e != api.OK {
			t.Error("with a quota that was raised:", height, e)
		}
		alone(t, a, x, with(l, s))
	}
}

func TestInsertGoesOnBehindDelete(t *testing.T) {
	a, x := fresh(t, api.MaxPages)
	l := wides(60, 400)
	for _, s := range l {
		x.Insert(s)
	}
	a.Limit(a.Used())
	refused(t, a, x, "a", api.ErrQuota)
	for a.Left() < x.Height()+1 {
		if e := x.Delete(l[0]); e != api.OK {
			t.Fatal(e)
		}
		l = l[1:]
	}
	if e := x.Insert("a"); e != api.OK {
		t.Error(e)
	}
	alone(t, a, x, with(l, "a"))
}

// TestDeleteWithNoPageLeft deletes all entries of a tree, at each height, while nobody may take a page.
func TestDeleteWithNoPageLeft(t *testing.T) {
	for height := 1; height <= 5; height++ {
		for _, less := range []int{0, 1, api.MaxPages} {
			a, x, l, _ := high(t, height)
			for i := 0; len(l) > 0; i++ {
				a.Limit(max(a.Used()-less, 0))
				s := l[i*17%len(l)]
				if e := x.Delete(s); e != api.OK {
					t.Fatal(height, less, e)
				}
				l = without(l, s)
				alone(t, a, x, l)
			}
			if x.Head() != (tree.Head{Root: x.Root(), Height: 1}) || a.Used() != 1 {
				t.Error(x.Head(), a.Used())
			}
		}
	}
}
