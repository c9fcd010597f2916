package arena_test

import (
	"bytes"
	"fmt"
	"maps"
	"math/rand/v2"
	"slices"
	"testing"

	"tripwire/api"
	"tripwire/arena"
)

// plain is the chapter told anew: pages by their numbers, all of them copied for a picture.
type plain struct {
	quota, next int
	pages       map[int][api.PageSize]byte
	free        []int
}

func (p *plain) alloc() (int, api.Errno) {
	if len(p.pages) >= p.quota {
		return 0, api.ErrQuota
	}
	n := p.next
	if k := len(p.free); k > 0 {
		n, p.free = p.free[k-1], slices.Clone(p.free[:k-1])
	} else {
		p.next++
	}
	p.pages[n] = [api.PageSize]byte{}
	return n, api.OK
}

func (p *plain) give(n int) api.Errno {
	if _, ok := p.pages[n]; !ok {
		return api.ErrName
	}
	delete(p.pages, n)
	p.free = append(slices.Clone(p.free), n)
	return api.OK
}

func (p *plain) store(n int, b []byte) api.Errno {
	if _, ok := p.pages[n]; !ok {
		return api.ErrName
	}
	if len(b) != api.PageSize {
		return api.ErrArg
	}
	p.pages[n] = [api.PageSize]byte(b)
	return api.OK
}

func (p *plain) limit(quota int) api.Errno {
	if quota < 0 || quota > api.MaxPages {
		return api.ErrArg
	}
	p.quota = quota
	return api.OK
}

func (p *plain) copied() plain {
	q := *p
	q.pages, q.free = maps.Clone(p.pages), slices.Clone(p.free)
	return q
}

// both is an arena beside its plain telling, with the pictures that were made of each.
type both struct {
	t     *testing.T
	did   []string
	a     *arena.Arena
	p     plain
	snaps []arena.Snap
	olds  []plain
}

func newBoth(t *testing.T, quota int) *both {
	return &both{t: t, a: made(t, quota, 0), p: plain{quota: quota, next: 1, pages: map[int][api.PageSize]byte{}}}
}

func (x *both) tell(got, want any, what ...any) {
	x.t.Helper()
	x.did = append(x.did, fmt.Sprint(what...))
	if got != want {
		x.t.Fatalf("%v: %v, not %v", x.did, got, want)
	}
}

type answer struct {
	n int
	e api.Errno
}

func (x *both) alloc() {
	n, e := x.a.Alloc()
	m, f := x.p.alloc()
	x.tell(answer{n, e}, answer{m, f}, "Alloc")
}

func (x *both) give(n int) { x.tell(x.a.Free(n), x.p.give(n), "Free ", n) }

func (x *both) store(n, size int, c byte) {
	b := bytes.Repeat([]byte{c}, size)
	x.tell(x.a.Store(n, b), x.p.store(n, b), "Store ", n, " ", size, " ", c)
}

func (x *both) limit(quota int) { x.tell(x.a.Limit(quota), x.p.limit(quota), "Limit ", quota) }

func (x *both) snap() {
	x.snaps, x.olds = append(x.snaps, x.a.Snap()), append(x.olds, x.p.copied())
	x.did = append(x.did, "Snap")
}

// restore is of the zero picture, if there is no such one.
func (x *both) restore(i int) {
	if i >= len(x.snaps) {
		x.tell(x.a.Restore(arena.Snap{}), api.ErrArg, "Restore of none")
		return
	}
	quota := x.p.quota
	x.p = x.olds[i].copied()
	x.p.quota = quota
	x.tell(x.a.Restore(x.snaps[i]), api.OK, "Restore ", i)
}

// look asks all that can be asked without a change.
func (x *both) look() {
	x.t.Helper()
	l := slices.Sorted(maps.Keys(x.p.pages))
	x.tell(x.a.Used(), len(l), "Used")
	x.tell(x.a.Left(), max(x.p.quota-len(l), 0), "Left")
	x.tell(fmt.Sprint(x.a.Pages()), fmt.Sprint(l), "Pages")
	for n := -1; n <= x.p.next+1; n++ {
		b, e := x.a.Load(n)
		if want, ok := x.p.pages[n]; ok {
			x.tell(e == api.OK && bytes.Equal(b, want[:]), true, "Load ", n)
		} else {
			x.tell(e == api.ErrName && len(b) == 0, true, "Load ", n)
		}
	}
	x.did = x.did[:len(x.did)-3-(x.p.next+3)]
}

// drain takes all pages that are to come, whose numbers tell in which order the free ones are kept.
func (x *both) drain() {
	x.t.Helper()
	x.limit(x.p.next + 1)
	for len(x.p.pages) < x.p.quota {
		x.alloc()
	}
	x.alloc()
	x.look()
}

// orders calls f with each list of at most size numbers below kinds, behind those that l has.
func orders(l []int, kinds, size int, f func(l []int)) {
	f(l)
	if len(l) == size {
		return
	}
	for i := range kinds {
		orders(append(l[:len(l):len(l)], i), kinds, size, f)
	}
}

// TestEveryShortOrder begins with a page, as without one hardly anything can be done.
func TestEveryShortOrder(t *testing.T) {
	calls := []func(x *both){
		(*both).alloc, (*both).snap,
		func(x *both) { x.give(1) }, func(x *both) { x.give(2) },
		func(x *both) { x.store(1, api.PageSize, 7) }, func(x *both) { x.store(2, api.PageSize, 8) },
		func(x *both) { x.restore(0) }, func(x *both) { x.restore(1) },
		func(x *both) { x.limit(1) }, func(x *both) { x.limit(3) },
	}
	orders(nil, len(calls), 5, func(l []int) {
		x := newBoth(t, 2)
		x.alloc()
		for _, i := range l {
			calls[i](x)
		}
		x.look()
		x.drain()
	})
}

// step does one call of any kind; those that can't be done are among them.
func step(x *both, r *rand.Rand) {
	n := r.IntN(x.p.next+3) - 1
	switch r.IntN(16) {
	case 0, 1, 2, 3:
		x.alloc()
	case 4, 5, 6:
		x.give(n)
	case 7, 8, 9:
		x.store(n, api.PageSize, byte(r.IntN(256)))
	case 10:
		x.store(n, []int{0, api.PageSize - 1, api.PageSize + 1}[r.IntN(3)], 1)
	case 11:
		x.limit(r.IntN(12))
	case 12:
		x.limit([]int{-1, api.MaxPages + 1}[r.IntN(2)])
	case 13:
		x.snap()
	default:
		x.restore(r.IntN(len(x.snaps) + 2))
	}
}

// TestLongOrders goes on long ways that are the same each time.
func TestLongOrders(t *testing.T) {
	for seed := range uint64(60) {
		r := rand.New(rand.NewPCG(seed, 4))
		x := newBoth(t, r.IntN(10))
		for range 300 {
			step(x, r)
			x.look()
		}
		for i := range x.snaps {
			x.restore(i)
			x.look()
			x.drain()
		}
	}
}
