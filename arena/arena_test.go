package arena_test

import (
	"bytes"
	"math"
	"slices"
	"testing"

	"tripwire/api"
	"tripwire/arena"
)

// wrongQuotas lists quotas outside the range; some of them are within it, if they are cut to fewer bits.
func wrongQuotas() []int {
	return []int{-1, -2, -api.MaxPages, api.MaxPages + 1, 1 << 16, 1 << 31, 1 << 32, 1<<32 + 1, 1<<62 + 5, math.MinInt, math.MinInt + 1, math.MaxInt}
}

// strangers lists numbers that no arena with fewer than 4096 pages has.
func strangers() []int {
	return []int{0, -1, -2, api.MaxPages, api.MaxPages + 1, 1 << 16, 1<<32 + 1, 1<<32 + 2, -1<<32 + 1, math.MinInt, math.MinInt + 1, math.MaxInt - 1, math.MaxInt}
}

// made is an arena with that many pages in use, up to its quota.
func made(t *testing.T, quota, pages int) *arena.Arena {
	t.Helper()
	a, e := arena.New(quota)
	if a == nil || e != api.OK {
		t.Fatalf("New of %d: %v and %d", quota, a, e)
	}
	for n := 1; n <= pages; n++ {
		wantAlloc(t, a, n)
	}
	return a
}

// filled is a page that is c all over.
func filled(c byte) []byte { return bytes.Repeat([]byte{c}, api.PageSize) }

func wantAlloc(t *testing.T, a *arena.Arena, want int) {
	t.Helper()
	if n, e := a.Alloc(); n != want || e != api.OK {
		t.Errorf("Alloc: %d and %d, not %d", n, e, want)
	}
}

func wantNoAlloc(t *testing.T, a *arena.Arena, want api.Errno) {
	t.Helper()
	if n, e := a.Alloc(); n != 0 || e != want {
		t.Errorf("Alloc: %d and %d, not 0 and %d", n, e, want)
	}
}

func wantCode(t *testing.T, what string, got, want api.Errno) {
	t.Helper()
	if got != want {
		t.Errorf("%s: %d, not %d", what, got, want)
	}
}

func wantLoad(t *testing.T, a *arena.Arena, n int, want []byte) {
	t.Helper()
	if b, e := a.Load(n); e != api.OK || !bytes.Equal(b, want) {
		t.Errorf("Load of %d: %d bytes and %d, not what was laid there", n, len(b), e)
	}
}

func wantNoLoad(t *testing.T, a *arena.Arena, n int, want api.Errno) {
	t.Helper()
	if b, e := a.Load(n); len(b) != 0 || e != want {
		t.Errorf("Load of %d: %d bytes and %d, not none and %d", n, len(b), e, want)
	}
}

// wantUse asks for which pages are in use, and how many more may be.
func wantUse(t *testing.T, a *arena.Arena, left int, pages ...int) {
	t.Helper()
	if l := a.Pages(); !slices.Equal(l, pages) || a.Used() != len(pages) || a.Left() != left {
		t.Errorf("pages %v, %d used, %d left, not %v with %d left", l, a.Used(), a.Left(), pages, left)
	}
}

func TestNew(t *testing.T) {
	for _, quota := range []int{0, 1, 2, api.MaxPages - 1, api.MaxPages} {
		wantUse(t, made(t, quota, 0), quota)
	}
	for _, quota := range wrongQuotas() {
		if a, e := arena.New(quota); a != nil || e != api.ErrArg {
			t.Errorf("New of %d: %v and %d", quota, a, e)
		}
	}
	wantNoAlloc(t, made(t, 0, 0), api.ErrQuota)
}

func TestExample(t *testing.T) {
	a := made(t, 2, 2)
	wantNoAlloc(t, a, api.ErrQuota)
	wantCode(t, "Free", a.Free(1), api.OK)
	wantAlloc(t, a, 1)
}

func TestLimit(t *testing.T) {
	a := made(t, 3, 3)
	for _, quota := range wrongQuotas() {
		wantCode(t, "Limit", a.Limit(quota), api.ErrArg)
		wantUse(t, a, 0, 1, 2, 3)
	}
	for _, quota := range []int{0, 1, 2, 3, 4, api.MaxPages} {
		wantCode(t, "Limit", a.Limit(quota), api.OK)
		wantUse(t, a, max(quota-3, 0), 1, 2, 3)
	}
}

func TestLimitBelowWhatIsInUse(t *testing.T) {
	a := made(t, 4, 4)
	wantCode(t, "Store", a.Store(3, filled(7)), api.OK)
	wantCode(t, "Limit", a.Limit(2), api.OK)
	wantUse(t, a, 0, 1, 2, 3, 4)
	wantLoad(t, a, 3, filled(7))
	wantCode(t, "Store", a.Store(3, filled(8)), api.OK)
	for _, n := range []int{4, 2} {
		wantNoAlloc(t, a, api.ErrQuota)
		wantCode(t, "Free", a.Free(n), api.OK)
	}
	wantNoAlloc(t, a, api.ErrQuota)
	wantUse(t, a, 0, 1, 3)
	wantCode(t, "Free", a.Free(1), api.OK)
	wantUse(t, a, 1, 3)
	wantAlloc(t, a, 1)
	wantNoAlloc(t, a, api.ErrQuota)
	wantCode(t, "Limit", a.Limit(5), api.OK)
	for _, n := range []int{2, 4, 5} {
		wantAlloc(t, a, n)
	}
	wantLoad(t, a, 3, filled(8))
}

func TestAllocTakesWhatWasGivenBackLast(t *testing.T) {
	a := made(t, 9, 6)
	for _, n := range []int{2, 6, 1, 4} {
		wantCode(t, "Free", a.Free(n), api.OK)
	}
	wantUse(t, a, 7, 3, 5)
	wantAlloc(t, a, 4)
	wantAlloc(t, a, 1)
	wantCode(t, "Free", a.Free(3), api.OK)
	for _, n := range []int{3, 6, 2, 7, 8, 9} {
		wantAlloc(t, a, n)
	}
	wantNoAlloc(t, a, api.ErrQuota)
	for n := range 10 {
		a.Free(n)
	}
	wantUse(t, a, 9)
	for n := 9; n >= 1; n-- {
		wantAlloc(t, a, n)
	}
}

func TestGreatestArena(t *testing.T) {
	a := made(t, api.MaxPages, api.MaxPages)
	wantNoAlloc(t, a, api.ErrQuota)
	var all []int
	for n := 1; n <= api.MaxPages; n++ {
		all = append(all, n)
		b := filled(byte(n))
		b[0], b[api.PageSize-1] = byte(n>>8), byte(n>>4)
		wantCode(t, "Store", a.Store(n, b), api.OK)
	}
	wantUse(t, a, 0, all...)
	for n := 1; n <= api.MaxPages; n++ {
		b := filled(byte(n))
		b[0], b[api.PageSize-1] = byte(n>>8), byte(n>>4)
		wantLoad(t, a, n, b)
	}
	wantNoLoad(t, a, api.MaxPages+1, api.ErrName)
	wantCode(t, "Free", a.Free(api.MaxPages), api.OK)
	wantUse(t, a, 1, all[:api.MaxPages-1]...)
	wantAlloc(t, a, api.MaxPages)
	wantLoad(t, a, api.MaxPages, filled(0))
}

func TestPageIsAllNoughts(t *testing.T) {
	a := made(t, 3, 3)
	for n := 1; n <= 3; n++ {
		wantLoad(t, a, n, filled(0))
		wantCode(t, "Store", a.Store(n, filled(byte(n))), api.OK)
	}
	for range 2 {
		wantCode(t, "Free", a.Free(2), api.OK)
		wantNoLoad(t, a, 2, api.ErrName)
		wantAlloc(t, a, 2)
		wantLoad(t, a, 2, filled(0))
		wantCode(t, "Store", a.Store(2, filled(0xff)), api.OK)
		wantLoad(t, a, 2, filled(0xff))
	}
	wantLoad(t, a, 1, filled(1))
	wantLoad(t, a, 3, filled(3))
}

// wantStranger asks everything of a number that isn't in use.
func wantStranger(t *testing.T, a *arena.Arena, n int) {
	t.Helper()
	wantCode(t, "Free", a.Free(n), api.ErrName)
	wantNoLoad(t, a, n, api.ErrName)
	for _, size := range []int{0, 1, api.PageSize - 1, api.PageSize, api.PageSize + 1} {
		wantCode(t, "Store of a page that isn't in use", a.Store(n, make([]byte, size)), api.ErrName)
	}
	wantCode(t, "Store of no bytes", a.Store(n, nil), api.ErrName)
}

func TestNumbersThatAreNotInUse(t *testing.T) {
	empty, none, a := made(t, 3, 0), made(t, 0, 0), made(t, 6, 4)
	for n := 1; n <= 4; n++ {
		wantCode(t, "Store", a.Store(n, filled(byte(n))), api.OK)
	}
	wantCode(t, "Free", a.Free(4), api.OK)
	wantCode(t, "Free", a.Free(2), api.OK)
	for _, n := range append(strangers(), 2, 4, 5, 6) {
		wantStranger(t, empty, n)
		wantStranger(t, none, n)
		wantStranger(t, a, n)
	}
	wantUse(t, empty, 3)
	wantUse(t, a, 4, 1, 3)
	wantLoad(t, a, 1, filled(1))
	wantLoad(t, a, 3, filled(3))
	for _, n := range []int{2, 4, 5, 6} {
		wantAlloc(t, a, n)
		wantLoad(t, a, n, filled(0))
	}
}

func TestStoreOfWrongSizes(t *testing.T) {
	a := made(t, 2, 2)
	wantCode(t, "Store", a.Store(1, filled(5)), api.OK)
	for _, size := range []int{0, 1, 512, api.PageSize - 1, api.PageSize + 1, 2 * api.PageSize, 1 << 16} {
		wantCode(t, "Store of a wrong size", a.Store(1, bytes.Repeat([]byte{9}, size)), api.ErrArg)
		wantLoad(t, a, 1, filled(5))
	}
	wantCode(t, "Store of no bytes", a.Store(1, nil), api.ErrArg)
	wantCode(t, "Store of room alone", a.Store(1, make([]byte, 0, api.PageSize)), api.ErrArg)
	wantLoad(t, a, 1, filled(5))
	wantLoad(t, a, 2, filled(0))
}

func TestStoreKeepsEachByte(t *testing.T) {
	a := made(t, 2, 2)
	for i := range api.PageSize {
		b := filled(0)
		b[i] = byte(i%255 + 1)
		wantCode(t, "Store", a.Store(2, b), api.OK)
		wantLoad(t, a, 2, b)
	}
	wantLoad(t, a, 1, filled(0))
}

func TestBytesHandedInAreNotShared(t *testing.T) {
	a := made(t, 2, 2)
	long := append(filled(3), filled(4)...)
	b := long[:api.PageSize]
	wantCode(t, "Store", a.Store(1, b), api.OK)
	wantCode(t, "Store", a.Store(2, b), api.OK)
	s := a.Snap()
	if !bytes.Equal(long, append(filled(3), filled(4)...)) {
		t.Error("Store wrote into what was handed in")
	}
	clear(long)
	wantLoad(t, a, 1, filled(3))
	wantCode(t, "Store", a.Store(1, filled(6)), api.OK)
	wantLoad(t, a, 2, filled(3))
	if !bytes.Equal(long, make([]byte, 2*api.PageSize)) {
		t.Error("a later Store wrote into what was handed in ahead of it")
	}
	wantCode(t, "Restore", a.Restore(s), api.OK)
	wantLoad(t, a, 1, filled(3))
	wantLoad(t, a, 2, filled(3))
}

func TestBytesAnsweredAreNotShared(t *testing.T) {
	a := made(t, 3, 2)
	wantCode(t, "Store", a.Store(1, filled(3)), api.OK)
	s := a.Snap()
	for n, was := range map[int]byte{1: 3, 2: 0} {
		b, _ := a.Load(n)
		c, _ := a.Load(n)
		clear(b)
		copy(b[:cap(b)], bytes.Repeat([]byte{9}, cap(b)))
		if !bytes.Equal(c, filled(was)) {
			t.Error("two answers share their bytes")
		}
		wantLoad(t, a, n, filled(was))
		wantCode(t, "Store", a.Store(n, filled(8)), api.OK)
		if !bytes.Equal(c, filled(was)) || !bytes.Equal(b, filled(9)) {
			t.Error("Store wrote into what was answered")
		}
	}
	wantAlloc(t, a, 3)
	wantLoad(t, a, 3, filled(0))
	wantCode(t, "Restore", a.Restore(s), api.OK)
	wantLoad(t, a, 1, filled(3))
	wantLoad(t, a, 2, filled(0))
}

func TestPagesListIsNotShared(t *testing.T) {
	a := made(t, 5, 4)
	wantCode(t, "Free", a.Free(2), api.OK)
	s := a.Snap()
	l, m := a.Pages(), a.Pages()
	for i := range l[:cap(l)] {
		l[:cap(l)][i] = -7
	}
	if !slices.Equal(m, []int{1, 3, 4}) {
		t.Error("two lists share their memory:", m)
	}
	wantUse(t, a, 2, 1, 3, 4)
	wantAlloc(t, a, 2)
	wantAlloc(t, a, 5)
	if !slices.Equal(m, []int{1, 3, 4}) {
		t.Error("Alloc wrote into a list that was answered:", m)
	}
	wantCode(t, "Restore", a.Restore(s), api.OK)
	wantUse(t, a, 2, 1, 3, 4)
}

func TestArenasKnowNothingOfOneAnother(t *testing.T) {
	a, b := made(t, 3, 2), made(t, 3, 2)
	wantCode(t, "Store", a.Store(1, filled(1)), api.OK)
	wantCode(t, "Free", a.Free(2), api.OK)
	wantCode(t, "Limit", a.Limit(1), api.OK)
	wantUse(t, b, 1, 1, 2)
	wantLoad(t, b, 1, filled(0))
	wantAlloc(t, b, 3)
	wantUse(t, a, 0, 1)
}

func TestNilArena(t *testing.T) {
	var a *arena.Arena
	wantNoAlloc(t, a, api.ErrArg)
	for _, n := range append(strangers(), 1, 2) {
		wantCode(t, "Free", a.Free(n), api.ErrArg)
		wantNoLoad(t, a, n, api.ErrArg)
		for _, size := range []int{0, api.PageSize - 1, api.PageSize, api.PageSize + 1} {
			wantCode(t, "Store", a.Store(n, make([]byte, size)), api.ErrArg)
		}
	}
	for _, quota := range append(wrongQuotas(), 0, 1, api.MaxPages) {
		wantCode(t, "Limit", a.Limit(quota), api.ErrArg)
	}
	wantUse(t, a, 0)
	if a.Snap() != (arena.Snap{}) {
		t.Error("a picture of no arena isn't the zero one")
	}
	for _, s := range []arena.Snap{{}, a.Snap(), made(t, 2, 1).Snap()} {
		wantCode(t, "Restore", a.Restore(s), api.ErrArg)
	}
}

// TestArenaThatNobodyMade asks the zero Arena: no sentence names it, so its quota is 0, and nothing panics.
func TestArenaThatNobodyMade(t *testing.T) {
	a := &arena.Arena{}
	wantNoAlloc(t, a, api.ErrQuota)
	wantStranger(t, a, 1)
	wantCode(t, "Restore", a.Restore(arena.Snap{}), api.ErrArg)
	s := a.Snap()
	wantCode(t, "Limit", a.Limit(1), api.OK)
	wantAlloc(t, a, 1)
	wantCode(t, "Restore", a.Restore(s), api.OK)
	wantUse(t, a, 1)
}
