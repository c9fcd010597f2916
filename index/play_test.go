package index_test

import (
	"fmt"
	"math/rand/v2"
	"slices"
	"strings"
	"testing"

	"tripwire/api"
	"tripwire/arena"
	"tripwire/index"
	"tripwire/tree"
)

// kept is an index beside what it has.
type kept struct {
	x *index.Index
	m model
}

// play is indexes in one arena that are told calls by chance.
type play struct {
	t       *testing.T
	r       *rand.Rand
	a       *arena.Arena
	indexes []kept
	was     struct { // a picture of the whole play
		snap   arena.Snap
		heads  []tree.Head
		models []model
	}
	calls, height, quotas int
}

// newPlay begins with as many indexes, each with n wide texts.
func newPlay(t *testing.T, seed uint64, indexes, n int) *play {
	p := &play{t: t, r: rand.New(rand.NewPCG(seed, 9))}
	p.a, _ = arena.New(api.MaxPages)
	for range indexes {
		x, m := other(t, p.a, n)
		p.indexes = append(p.indexes, kept{x, m})
	}
	p.keep()
	return p
}

func (p *play) keep() {
	p.was.snap, p.was.heads, p.was.models = p.a.Snap(), nil, nil
	for _, k := range p.indexes {
		p.was.heads, p.was.models = append(p.was.heads, k.x.Head()), append(p.was.models, slices.Clone(k.m))
	}
}

func (p *play) restore() {
	if e := p.a.Restore(p.was.snap); e != api.OK {
		p.t.Fatal(e)
	}
	for i := range p.indexes {
		p.indexes[i] = kept{index.Open(p.a, p.was.heads[i]), slices.Clone(p.was.models[i])}
	}
}

// value is a value by chance, now and then a wrong one.
func (p *play) value() api.Value {
	switch p.r.IntN(8) {
	case 0, 1:
		return someValues()[p.r.IntN(len(someValues()))]
	case 2:
		return number(p.r.IntN(9) - 4)
	case 3:
		return text(strings.Repeat("\x00", p.r.IntN(25)))
	case 4:
		if p.r.IntN(3) == 0 {
			return wrongValues()[p.r.IntN(len(wrongValues()))]
		}
	}
	return wide(p.r.IntN(40))
}

func (p *play) id() int {
	if p.r.IntN(20) == 0 {
		return append(wrongIDs(), edgeIDs()...)[p.r.IntN(len(wrongIDs())+len(edgeIDs()))]
	}
	return p.r.IntN(8)
}

func (p *play) bound() index.Bound {
	return index.Bound{Has: p.r.IntN(5) > 0, Incl: p.r.IntN(2) == 0, V: p.value()}
}

// isRight tells which values are right, as the chapter of values says it.
func isRight(v api.Value) bool {
	switch v.Kind {
	case 0:
		return v == api.Value{}
	case 1:
		return (v.N == 0 || v.N == 1) && v.S == ""
	case 2:
		return v.S == ""
	case 3:
		return v.N == 0 && len(v.S) <= 24
	}
	return false
}

func hasNoKey(v api.Value, id int) bool { return !isRight(v) || id < 0 || id > 1<<40 }

// done holds a call's answer against what is wanted of it, and what it left, if it was refused.
func (p *play) done(k *kept, what string, want api.Errno, call func() api.Errno) {
	p.t.Helper()
	if want != api.OK {
		refused(p.t, p.a, k.x, want, what, call)
		return
	}
	if e := call(); e != api.OK {
		p.t.Fatalf("call %d: %s: %v", p.calls, what, e)
	}
}

func (p *play) add(k *kept, v api.Value, id int) {
	want := api.OK
	switch _, there := k.m.find(v, id); {
	case hasNoKey(v, id):
		want = api.ErrArg
	case there:
		want = api.ErrThere
	case p.a.Left() < k.x.Height()+1:
		want = api.ErrQuota
		p.quotas++
	}
	p.done(k, "Add", want, func() api.Errno { return k.x.Add(v, id) })
	if want == api.OK {
		k.m.add(v, id)
	}
}

func (p *play) cut(k *kept, v api.Value, id int) {
	want := api.OK
	switch _, there := k.m.find(v, id); {
	case hasNoKey(v, id):
		want = api.ErrArg
	case !there:
		want = api.ErrName
	}
	used := p.a.Used()
	p.done(k, "Cut", want, func() api.Errno { return k.x.Cut(v, id) })
	if want == api.OK {
		k.m.cut(v, id)
	}
	if p.a.Used() > used {
		p.t.Fatal("a Cut took pages")
	}
}

// cutOne cuts a pair that is there, if one is.
func (p *play) cutOne(k *kept) {
	if len(k.m) > 0 {
		q := k.m[p.r.IntN(len(k.m))]
		p.cut(k, q.v, q.id)
	}
}

// renew drops an index, and makes another one in its place.
func (p *play) renew(k *kept) {
	used, mine := p.a.Used(), len(k.x.Pages())
	if e := k.x.Drop(); e != api.OK || p.a.Used() != used-mine {
		p.t.Fatal(e)
	}
	over(p.t, "dropped", k.x)
	p.a.Limit(api.MaxPages)
	x, m := other(p.t, p.a, p.r.IntN(140))
	*k = kept{x, m}
}

func (p *play) quota() {
	if p.r.IntN(3) == 0 {
		p.a.Limit(max(p.a.Used()-2+p.r.IntN(10), 0))
		return
	}
	p.a.Limit(api.MaxPages)
}

// call is one call; of 100 changes, grow are Adds.
func (p *play) call(grow int) {
	p.calls++
	k := &p.indexes[p.r.IntN(len(p.indexes))]
	switch n := p.r.IntN(1000); {
	case n < 30:
		p.quota()
	case n < 35:
		p.keep()
	case n < 38:
		p.restore()
	case n < 60:
		k.x = index.Open(p.a, k.x.Head())
	case n < 61:
		p.renew(k)
	case p.r.IntN(100) < grow:
		p.add(k, p.value(), p.id())
	case n < 500:
		p.cut(k, p.value(), p.id())
	default:
		p.cutOne(k)
	}
}

// ask holds what an index answers of bounds and values by chance.
func (p *play) ask(k kept) {
	lo, hi := p.bound(), p.bound()
	var want model
	if (isRight(lo.V) || !lo.Has) && (isRight(hi.V) || !hi.Has) {
		want = k.m.between(lo, hi)
	}
	if got := told(k.x, lo, hi); !slices.Equal(got, want) {
		p.t.Fatalf("call %d: %+v to %+v: %v, not %v", p.calls, lo, hi, got, want)
	}
	for range 5 {
		v := p.value()
		id, there := k.x.First(v)
		if least, has := k.m.first(v); id != least || there != has {
			p.t.Fatalf("call %d: First of %v: %d, %v, not %d, %v", p.calls, v, id, there, least, has)
		}
	}
}

func (p *play) check() {
	var pages []int
	for _, k := range p.indexes {
		check(p.t, p.a, k.x, k.m)
		p.ask(k)
		pages = append(pages, k.x.Pages()...)
		p.height = max(p.height, k.x.Height())
	}
	slices.Sort(pages)
	if !slices.Equal(pages, p.a.Pages()) {
		p.t.Fatalf("call %d: in use %v, in the indexes %v", p.calls, p.a.Pages(), pages)
	}
}

func TestPlay(t *testing.T) {
	t.Parallel()
	for seed := range uint64(6) {
		t.Run(fmt.Sprint(seed), func(t *testing.T) {
			t.Parallel()
			p := newPlay(t, seed, 1+int(seed%3), 140)
			for _, grow := range []int{98, 40, 90, 5} {
				for range 250 {
					p.call(grow)
					p.check()
				}
			}
			if p.height < 3 || p.quotas == 0 {
				t.Errorf("the play is too tame: height %d, %d refused", p.height, p.quotas)
			}
		})
	}
}

// TestAllShortPlays: every list of four calls from eight that meet one another, over an index that has just room for a first or a second pair more, and over one whose pages then go on.
func TestAllShortPlays(t *testing.T) {
	t.Parallel()
	type call func(p *play, k *kept)
	var calls []call
	for _, v := range []api.Value{text("\x00"), wide(60)} {
		for _, id := range []int{1, 2} {
			calls = append(calls, func(p *play, k *kept) { p.add(k, v, id) }, func(p *play, k *kept) { p.cut(k, v, id) })
		}
	}
	const depth, lists = 4, 8 * 8 * 8 * 8
	for _, quota := range []int{2, 9} {
		t.Run(fmt.Sprint(quota), func(t *testing.T) {
			t.Parallel()
			for n := range lists {
				p := newPlay(t, 1, 1, 0)
				k := &p.indexes[0]
				for i := range 15 {
					put(t, k.x, &k.m, wide(100+i), 1)
				}
				p.a.Limit(p.a.Used() + quota)
				for range depth {
					calls[n%8](p, k)
					n /= 8
					alone(t, p.a, k.x, k.m)
				}
			}
		})
	}
}
