package heap_test

import (
	"fmt"
	"math/rand/v2"
	"slices"
	"strings"
	"testing"

	"tripwire/api"
	"tripwire/arena"
	"tripwire/heap"
	"tripwire/tree"
)

// kept is a heap beside what it has.
type kept struct {
	h *heap.Heap
	m model
}

// play is heaps in one arena that are told calls by chance.
type play struct {
	t     *testing.T
	r     *rand.Rand
	a     *arena.Arena
	heaps []kept
	was   struct { // a picture of the whole play
		snap   arena.Snap
		heads  []tree.Head
		models []model
	}
	calls, height, refused int
}

func newPlay(t *testing.T, seed uint64, heaps int) *play {
	p := &play{t: t, r: rand.New(rand.NewPCG(seed, 8))}
	p.a, _ = arena.New(api.MaxPages)
	for range heaps {
		h, m := other(t, p.a, 0)
		p.heaps = append(p.heaps, kept{h, m})
	}
	p.keep()
	return p
}

func copied(m model) model {
	c := model{}
	for id, l := range m {
		c[id] = slices.Clone(l)
	}
	return c
}

func (p *play) keep() {
	p.was.snap, p.was.heads, p.was.models = p.a.Snap(), nil, nil
	for _, k := range p.heaps {
		p.was.heads, p.was.models = append(p.was.heads, k.h.Head()), append(p.was.models, copied(k.m))
	}
}

func (p *play) restore() {
	if e := p.a.Restore(p.was.snap); e != api.OK {
		p.t.Fatal(e)
	}
	for i := range p.heaps {
		p.heaps[i] = kept{heap.Open(p.a, p.was.heads[i]), copied(p.was.models[i])}
	}
}

// row is a row by chance, now and then a wrong one.
func (p *play) row() []api.Value {
	switch p.r.IntN(12) {
	case 0:
		return wrongRows()[p.r.IntN(len(wrongRows()))]
	case 1, 2, 3:
		return someRows()[p.r.IntN(len(someRows()))]
	case 4, 5, 6:
		return wide(p.r.IntN(1000))
	}
	var l []api.Value
	for range p.r.IntN(7) {
		l = append(l, []api.Value{
			{}, boolean(p.r.IntN(2)), number(int(p.r.Uint64())), text(strings.Repeat("\x00", p.r.IntN(25))), text(strings.Repeat("y", p.r.IntN(25))),
		}[p.r.IntN(5)])
	}
	return l
}

func (p *play) id() int {
	if p.r.IntN(20) == 0 {
		return append(wrongIDs(), edgeIDs()...)[p.r.IntN(len(wrongIDs())+len(edgeIDs()))]
	}
	return p.r.IntN(150)
}

func hasNoBytes(id int, l []api.Value) bool {
	for _, v := range l {
		switch {
		case v.Kind < api.Null || v.Kind > api.Text, v.Kind != api.Text && v.S != "", len(v.S) > 24:
			return true
		case (v.Kind == api.Null || v.Kind == api.Text) && v.N != 0, v.Kind == api.Bool && v.N != 0 && v.N != 1:
			return true
		}
	}
	return id < 0 || id > 1<<40 || len(l) > 6
}

// wanted is what the chapter says that a Put or a Set answers.
func (p *play) wanted(k *kept, id int, l []api.Value, there bool, other api.Errno) api.Errno {
	switch _, has := k.m[id]; {
	case hasNoBytes(id, l):
		return api.ErrArg
	case has != there:
		return other
	case p.a.Left() < k.h.Height()+1:
		p.refused++
		return api.ErrQuota
	}
	return api.OK
}

// done holds a call's answer against what is wanted of it, and what it left, if it was refused.
func (p *play) done(k *kept, what string, want api.Errno, call func() api.Errno) {
	p.t.Helper()
	if want != api.OK {
		refused(p.t, p.a, k.h, want, what, call)
		return
	}
	if e := call(); e != api.OK {
		p.t.Fatalf("call %d: %s: %v", p.calls, what, e)
	}
}

func (p *play) put(k *kept, id int, l []api.Value) {
	want := p.wanted(k, id, l, false, api.ErrThere)
	p.done(k, "Put", want, func() api.Errno { return k.h.Put(id, l) })
	if want == api.OK {
		k.m[id] = l
	}
}

func (p *play) set(k *kept, id int, l []api.Value) {
	want := p.wanted(k, id, l, true, api.ErrName)
	p.done(k, "Set", want, func() api.Errno { return k.h.Set(id, l) })
	if want == api.OK {
		k.m[id] = l
	}
}

func (p *play) cut(k *kept, id int) {
	want := api.ErrName
	if _, has := k.m[id]; has {
		want = api.OK
	}
	used := p.a.Used()
	p.done(k, "Cut", want, func() api.Errno { return k.h.Cut(id) })
	delete(k.m, id)
	if p.a.Used() > used {
		p.t.Fatal("a Cut took pages")
	}
}

// renew drops a heap, and makes another one in its place.
func (p *play) renew(k *kept) {
	used, mine := p.a.Used(), len(k.h.Pages())
	if e := k.h.Drop(); e != api.OK || p.a.Used() != used-mine {
		p.t.Fatal(e)
	}
	over(p.t, "dropped", k.h)
	p.a.Limit(api.MaxPages)
	h, m := other(p.t, p.a, 0)
	*k = kept{h, m}
}

func (p *play) quota() {
	if p.r.IntN(3) == 0 {
		p.a.Limit(max(p.a.Used()-2+p.r.IntN(10), 0))
		return
	}
	p.a.Limit(api.MaxPages)
}

// call is one call; of 100 changes, grow are Puts.
func (p *play) call(grow int) {
	p.calls++
	k, id := &p.heaps[p.r.IntN(len(p.heaps))], p.id()
	switch n := p.r.IntN(1000); {
	case n < 30:
		p.quota()
	case n < 35:
		p.keep()
	case n < 39:
		p.restore()
	case n < 60:
		k.h = heap.Open(p.a, k.h.Head())
	case n < 62:
		p.renew(k)
	case n < 400:
		p.set(k, id, p.row())
	case p.r.IntN(100) < grow:
		p.put(k, id, p.row())
	default:
		p.cut(k, id)
	}
}

func (p *play) check() {
	var pages []int
	for _, k := range p.heaps {
		check(p.t, p.a, k.h, k.m)
		pages = append(pages, k.h.Pages()...)
		p.height = max(p.height, k.h.Height())
		id := p.id()
		want := slices.DeleteFunc(k.m.ids(), func(n int) bool { return n < id })
		got := told(k.h, id)
		if len(got) != len(want) || len(got) > 0 && got[0].ID != want[0] {
			p.t.Fatalf("call %d: from %d: %d rows, not %d", p.calls, id, len(got), len(want))
		}
	}
	slices.Sort(pages)
	if !slices.Equal(pages, p.a.Pages()) {
		p.t.Fatalf("call %d: in use %v, in the heaps %v", p.calls, p.a.Pages(), pages)
	}
}

func TestPlay(t *testing.T) {
	for seed := range uint64(6) {
		t.Run(fmt.Sprint(seed), func(t *testing.T) {
			t.Parallel()
			p := newPlay(t, seed, 1+int(seed%3))
			for _, grow := range []int{90, 40, 80, 15, 60, 5} {
				for range 200 {
					p.call(grow)
					p.check()
				}
			}
			least := 3
			if len(p.heaps) > 2 {
				least = 2 // the rows are spread over them
			}
			if p.height < least || p.refused == 0 {
				t.Errorf("the play is too tame: height %d, %d refused", p.height, p.refused)
			}
		})
	}
}

// TestAllShortPlays: every list of three calls from ten that meet one another, over a heap that has little room.
func TestAllShortPlays(t *testing.T) {
	type call func(p *play, k *kept)
	var calls []call
	for _, id := range []int{1, 2} {
		for _, l := range [][]api.Value{nil, widest(3)} {
			calls = append(calls, func(p *play, k *kept) { p.put(k, id, l) }, func(p *play, k *kept) { p.set(k, id, l) })
		}
		calls = append(calls, func(p *play, k *kept) { p.cut(k, id) })
	}
	const depth = 3
	for _, quota := range []int{2, 3, api.MaxPages} {
		for n := range 10 * 10 * 10 {
			p := newPlay(t, 1, 1)
			k := &p.heaps[0]
			fill(t, k.h, wides(5), []int{3, 4, 5})
			k.m = wides(5)
			delete(k.m, 1)
			delete(k.m, 2)
			p.a.Limit(p.a.Used() + quota)
			for range depth {
				calls[n%10](p, k)
				n /= 10
				alone(t, p.a, k.h, k.m)
			}
		}
	}
}

// TestMemory: what was handed in or answered, and is written over behind it, changes nothing that the heap has.
func TestMemory(t *testing.T) {
	a, h, m := high(t, 2)
	want := copied(m)
	for _, id := range m.ids() {
		l := append(slices.Clone(m[id]), number(99))[:6] // with room behind
		was := slices.Clone(l[:7])
		if e := h.Set(id, l); e != api.OK {
			t.Fatal(e)
		}
		if e := h.Put(id+1, l); e != api.OK {
			t.Fatal(e)
		}
		want[id], want[id+1] = slices.Clone(l), slices.Clone(l)
		if !slices.Equal(l[:7], was) {
			t.Error("an argument was written into:", l[:7])
		}
		ruin(l)
		alone(t, a, h, want)
		x, _ := h.Get(id)
		y, _ := h.Get(id)
		if ruin(x); !slices.Equal(y, want[id]) {
			t.Error("two answers share memory")
		}
	}
	alone(t, a, h, want)
	h.Each(0, func(r api.Row) bool {
		ruin(r.Values)
		return true
	})
	pages := h.Pages()
	for i := range pages {
		pages[i] = 0
	}
	alone(t, a, h, want)
}

func ruin(l []api.Value) {
	for i := range l {
		l[i] = text("ruined")
	}
	if len(l) < cap(l) {
		ruin(l[:cap(l)])
	}
}

// TestRowsOfOneWalk: the rows that Each tells share nothing with each other.
func TestRowsOfOneWalk(t *testing.T) {
	_, h, m := high(t, 2)
	l := told(h, 0)
	for i := range l {
		ruin(l[i].Values)
		for _, r := range l[i+1:] {
			if !slices.Equal(r.Values, m[r.ID]) {
				t.Fatal(r.ID, r.Values)
			}
		}
	}
}
