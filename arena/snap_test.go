package arena_test

import (
	"testing"

	"tripwire/api"
	"tripwire/arena"
)

func restore(t *testing.T, a *arena.Arena, s arena.Snap) {
	t.Helper()
	wantCode(t, "Restore", a.Restore(s), api.OK)
}

func TestRestoreOfAllThatWasDone(t *testing.T) {
	a := made(t, 6, 4)
	wantCode(t, "Store", a.Store(1, filled(1)), api.OK)
	wantCode(t, "Store", a.Store(3, filled(3)), api.OK)
	wantCode(t, "Free", a.Free(2), api.OK)
	wantCode(t, "Free", a.Free(4), api.OK)
	s := a.Snap()
	for range 3 {
		wantUse(t, a, 4, 1, 3)
		wantLoad(t, a, 1, filled(1))
		wantLoad(t, a, 3, filled(3))
		wantStranger(t, a, 2)
		wantStranger(t, a, 4)
		for _, n := range []int{4, 2, 5, 6} {
			wantAlloc(t, a, n)
			wantLoad(t, a, n, filled(0))
			wantCode(t, "Store", a.Store(n, filled(9)), api.OK)
		}
		for _, n := range []int{1, 3, 6} {
			wantCode(t, "Store", a.Store(n, filled(9)), api.OK)
			wantCode(t, "Free", a.Free(n), api.OK)
		}
		wantAlloc(t, a, 6)
		restore(t, a, s)
	}
}

func TestRestoreOfAPictureOfNoPages(t *testing.T) {
	a := made(t, 3, 0)
	s := a.Snap()
	for range 2 {
		for n := 1; n <= 3; n++ {
			wantAlloc(t, a, n)
		}
		wantCode(t, "Free", a.Free(1), api.OK)
		restore(t, a, s)
		wantUse(t, a, 3)
		wantStranger(t, a, 1)
	}
	wantAlloc(t, a, 1)
}

// TestRestoreOfTheNextNumber asks for it, as behind a Restore it is the one that it was, not the greatest ever in use.
func TestRestoreOfTheNextNumber(t *testing.T) {
	a := made(t, 5, 2)
	s := a.Snap()
	for n := 3; n <= 5; n++ {
		wantAlloc(t, a, n)
	}
	later := a.Snap()
	restore(t, a, s)
	wantAlloc(t, a, 3)
	wantCode(t, "Free", a.Free(3), api.OK)
	wantCode(t, "Free", a.Free(1), api.OK)
	for _, n := range []int{1, 3, 4, 5} {
		wantAlloc(t, a, n)
	}
	restore(t, a, later)
	wantUse(t, a, 0, 1, 2, 3, 4, 5)
}

// TestRestoreOfTheOrderOfFreeNumbers takes them in other orders ahead of each Restore, so that a list in common would tell.
func TestRestoreOfTheOrderOfFreeNumbers(t *testing.T) {
	a := made(t, 6, 6)
	for _, n := range []int{3, 1, 5, 2} {
		wantCode(t, "Free", a.Free(n), api.OK)
	}
	s := a.Snap()
	for _, back := range [][]int{{2, 1, 3, 5}, {5, 3, 2, 1}, {6, 4, 1, 2}, {1, 4, 6, 3}} {
		for _, n := range []int{2, 5, 1, 3} {
			wantAlloc(t, a, n)
		}
		for _, n := range back {
			wantCode(t, "Free", a.Free(n), api.OK)
		}
		other := a.Snap()
		restore(t, a, s)
		restore(t, a, other)
		for i := len(back) - 1; i >= 0; i-- {
			wantAlloc(t, a, back[i])
		}
		restore(t, a, s)
	}
}

func TestRestoreLeavesTheQuota(t *testing.T) {
	a := made(t, 4, 3)
	s := a.Snap()
	for _, quota := range []int{0, 1, 2, 3, 4, 5, api.MaxPages} {
		wantCode(t, "Limit", a.Limit(quota), api.OK)
		restore(t, a, s)
		wantUse(t, a, max(quota-3, 0), 1, 2, 3)
		if quota <= 3 {
			wantNoAlloc(t, a, api.ErrQuota)
		} else {
			wantAlloc(t, a, 4)
		}
	}
}

func TestRestoreBelowTheQuotaOfThePicture(t *testing.T) {
	a := made(t, 3, 3)
	s := a.Snap()
	for n := 1; n <= 3; n++ {
		wantCode(t, "Free", a.Free(n), api.OK)
	}
	wantCode(t, "Limit", a.Limit(1), api.OK)
	restore(t, a, s)
	wantUse(t, a, 0, 1, 2, 3)
	wantNoAlloc(t, a, api.ErrQuota)
	wantCode(t, "Free", a.Free(2), api.OK)
	wantCode(t, "Free", a.Free(3), api.OK)
	wantNoAlloc(t, a, api.ErrQuota)
}

func TestPicturesOutOfOrder(t *testing.T) {
	a := made(t, 5, 1)
	var l []arena.Snap
	for n := 1; n <= 4; n++ {
		wantCode(t, "Store", a.Store(1, filled(byte(n))), api.OK)
		l = append(l, a.Snap())
		wantAlloc(t, a, n+1)
	}
	wantCode(t, "Free", a.Free(1), api.OK)
	gone := a.Snap()
	all := []int{1, 2, 3, 4, 5}
	for _, i := range []int{3, 0, 2, 2, 1, 3, 0, 0, 3} {
		restore(t, a, l[i])
		wantUse(t, a, 4-i, all[:i+1]...)
		wantLoad(t, a, 1, filled(byte(i+1)))
		within := a.Snap()
		wantCode(t, "Store", a.Store(1, filled(99)), api.OK)
		wantCode(t, "Free", a.Free(1), api.OK)
		restore(t, a, gone)
		wantUse(t, a, 1, 2, 3, 4, 5)
		restore(t, a, within)
		wantLoad(t, a, 1, filled(byte(i+1)))
		wantAlloc(t, a, i+2)
	}
}

func TestPicturesOfOthers(t *testing.T) {
	a, b := made(t, 4, 3), made(t, 4, 3)
	wantCode(t, "Store", a.Store(1, filled(1)), api.OK)
	wantCode(t, "Free", a.Free(2), api.OK)
	var none *arena.Arena
	own := a.Snap()
	for _, s := range []arena.Snap{{}, none.Snap(), b.Snap(), made(t, 0, 0).Snap()} {
		wantCode(t, "Restore of a picture of another", a.Restore(s), api.ErrArg)
		wantUse(t, a, 2, 1, 3)
		wantLoad(t, a, 1, filled(1))
	}
	wantCode(t, "Restore of a picture of another", b.Restore(own), api.ErrArg)
	wantUse(t, b, 1, 1, 2, 3)
	wantLoad(t, b, 1, filled(0))
	wantAlloc(t, a, 2)
	restore(t, a, own)
	wantUse(t, a, 2, 1, 3)
}

func TestSnapChangesNothing(t *testing.T) {
	a := made(t, 4, 3)
	wantCode(t, "Free", a.Free(1), api.OK)
	wantCode(t, "Free", a.Free(3), api.OK)
	for range 3 {
		a.Snap()
		wantUse(t, a, 3, 2)
	}
	wantAlloc(t, a, 3)
	a.Snap()
	wantAlloc(t, a, 1)
	a.Snap()
	wantAlloc(t, a, 4)
}
