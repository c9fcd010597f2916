package tree_test

import (
	"fmt"
	"maps"
	"math/rand/v2"
	"slices"
	"strings"
	"testing"

	"tripwire/api"
	"tripwire/arena"
	"tripwire/tree"
)

// kinds are ways to come by an entry: there are few of each, so that one is often there already.
func kinds() map[string]func(r *rand.Rand) string {
	return map[string]func(r *rand.Rand) string{
		"long":  func(r *rand.Rand) string { return wide(r.IntN(150), 400) },
		"short": func(r *rand.Rand) string { return wide(r.IntN(1500), 1+r.IntN(30)) },
		"mixed": func(r *rand.Rand) string {
			if r.IntN(2) == 0 {
				return string([]byte{byte(r.IntN(256))})
			}
			return string([]byte{byte(r.IntN(256))}) + strings.Repeat("x", 399)
		},
		"any":    func(r *rand.Rand) string { return wide(r.IntN(300), 5+r.IntN(396)) },
		"begins": func(r *rand.Rand) string { return strings.Repeat("a", 1+r.IntN(400)) },
		"edges": func(r *rand.Rand) string {
			b := make([]byte, 1+r.IntN(8))
			for i := range b {
				b[i] = []byte{0, 255, 0, 1}[r.IntN(4)]
			}
			return string(b) + strings.Repeat("\xff", []int{0, 392}[r.IntN(2)])
		},
		"steps": func(r *rand.Rand) string { // entries become longer the further up they stand, and at last too long
			i := r.IntN(200)
			return wide(i, 2*i+6-i%3)
		},
	}
}

// pair is a tree beside a rising list of what it has.
type pair struct {
	x *tree.Tree
	l []string
}

// memory is a picture of a whole play.
type memory struct {
	snap  arena.Snap
	heads []tree.Head
	lists [][]string
}

// play is trees in one arena that are told calls by chance.
type play struct {
	t     *testing.T
	r     *rand.Rand
	a     *arena.Arena
	trees []pair
	kept  memory
	grow  int // of 100 changes, how many are Inserts
	calls int
	most  struct{ height, single, refused int }
}

func newPlay(t *testing.T, seed uint64, trees int) *play {
	p := &play{t: t, r: rand.New(rand.NewPCG(seed, 6)), grow: 80}
	p.a, _ = arena.New(api.MaxPages)
	for range trees {
		p.trees = append(p.trees, pair{x: filled(t, p.a, nil)})
	}
	p.keep()
	return p
}

func (p *play) keep() {
	p.kept = memory{snap: p.a.Snap()}
	for _, y := range p.trees {
		p.kept.heads, p.kept.lists = append(p.kept.heads, y.x.Head()), append(p.kept.lists, y.l)
	}
}

func (p *play) restore() {
	if e := p.a.Restore(p.kept.snap); e != api.OK {
		p.t.Fatal(e)
	}
	for i := range p.trees {
		p.trees[i] = pair{tree.Open(p.a, p.kept.heads[i]), p.kept.lists[i]}
	}
}

// insert holds an Insert against what the chapter says of it.
func (p *play) insert(y *pair, s string) {
	_, there := slices.BinarySearch(y.l, s)
	height, left, was := y.x.Height(), p.a.Left(), held(p.a)
	want := api.OK
	switch {
	case len(s) < 1 || len(s) > api.MaxEntry:
		want = api.ErrArg
	case there:
		want = api.ErrThere
	case left < height+1:
		want = api.ErrQuota
		p.most.refused++
	default:
		y.l = with(y.l, s)
	}
	mine, e := y.x.Pages(), y.x.Insert(s)
	if e != want {
		p.t.Fatalf("call %d: Insert of %s with %d left, height %d: %v, not %v", p.calls, short(s), left, height, e, want)
	}
	took := p.left(was, mine, e)
	if took > height+1 {
		p.t.Fatalf("call %d: an Insert took %d pages at height %d", p.calls, took, height)
	}
}

// left holds what a call left of all pages: those of others, and, if it was refused, its own; it is how many it took.
func (p *play) left(was map[int]string, mine []int, e api.Errno) int {
	now, took := held(p.a), 0
	for n, b := range was {
		if (e != api.OK || !slices.Contains(mine, n)) && now[n] != b {
			p.t.Fatalf("call %d (%v): page %d changed", p.calls, e, n)
		}
	}
	for n := range now {
		if _, ok := was[n]; !ok {
			took++
		}
	}
	if e != api.OK && took > 0 {
		p.t.Fatalf("call %d was refused with %v, and took %d pages", p.calls, e, took)
	}
	return took
}

func (p *play) delete(y *pair, s string) {
	_, there := slices.BinarySearch(y.l, s)
	want := api.ErrName
	if there {
		want, y.l = api.OK, without(y.l, s)
	}
	was, mine := held(p.a), y.x.Pages()
	e := y.x.Delete(s)
	if e != want {
		p.t.Fatalf("call %d: Delete of %s: %v, not %v", p.calls, short(s), e, want)
	}
	if took := p.left(was, mine, e); took > 0 {
		p.t.Fatalf("call %d: a Delete took %d pages", p.calls, took)
	}
}

// check holds all trees against their lists, and the pages in use against theirs.
func (p *play) check(s string) {
	var pages []int
	for _, y := range p.trees {
		k := check(p.t, p.a, y.x, y.l)
		pages = append(pages, k.pages...)
		p.most.height, p.most.single = max(p.most.height, y.x.Height()), max(p.most.single, k.single)
		_, there := slices.BinarySearch(y.l, s)
		if y.x.Has(s) != there {
			p.t.Fatalf("call %d: Has of %s isn't %v", p.calls, short(s), there)
		}
	}
	slices.Sort(pages)
	if !slices.Equal(pages, p.a.Pages()) {
		p.t.Fatalf("call %d: in use %v, in the trees %v", p.calls, p.a.Pages(), pages)
	}
}

// quota sets another one, also below what is in use.
func (p *play) quota() {
	switch p.r.IntN(3) {
	case 0:
		p.a.Limit(max(p.a.Used()-3+p.r.IntN(12), 0))
	default:
		p.a.Limit(api.MaxPages)
	}
}

// renew drops a tree, and makes another one in its place.
func (p *play) renew(y *pair) {
	was, mine := held(p.a), y.x.Pages()
	maps.DeleteFunc(was, func(n int, _ string) bool { return slices.Contains(mine, n) })
	if e := y.x.Drop(); e != api.OK || !maps.Equal(was, held(p.a)) {
		p.t.Fatalf("call %d: Drop: %v", p.calls, e)
	}
	over(p.t, "dropped", y.x)
	p.a.Limit(api.MaxPages)
	*y = pair{x: filled(p.t, p.a, nil)}
}

func (p *play) call(entry func(r *rand.Rand) string) {
	p.calls++
	y, s := &p.trees[p.r.IntN(len(p.trees))], entry(p.r)
	switch k := p.r.IntN(1000); {
	case k < 15:
		p.quota()
	case k < 20:
		p.keep()
	case k < 24:
		p.restore()
	case k < 40:
		y.x = tree.Open(p.a, y.x.Head())
	case k < 42 && len(p.trees) > 1:
		p.renew(y)
	case p.r.IntN(100) < p.grow:
		p.insert(y, s)
	default:
		if len(y.l) > 0 && p.r.IntN(3) > 0 {
			s = y.l[p.r.IntN(len(y.l))]
		}
		p.delete(y, s)
	}
	p.check(s)
}

func TestPlay(t *testing.T) {
	for name, entry := range kinds() {
		for seed := range uint64(3) {
			t.Run(fmt.Sprint(name, seed), func(t *testing.T) {
				t.Parallel()
				p := newPlay(t, seed, 1+int(seed))
				for _, p.grow = range []int{85, 40, 70, 15, 60, 5} {
					for range 200 {
						p.call(entry)
					}
				}
				least := 3
				if name == "short" {
					least = 2
				}
				if p.most.height < least || p.most.refused == 0 {
					t.Errorf("the play is too tame: %+v", p.most)
				}
			})
		}
	}
}

// TestManyShortEntries: nodes of which many entries are, so that it takes thousands to have an inner node above inner ones.
func TestManyShortEntries(t *testing.T) {
	const n = 9001
	a, x := fresh(t, api.MaxPages)
	var l []string
	for i := range n {
		l = append(l, wide(i, 5))
	}
	for i := range n {
		if e := x.Insert(l[i*3571%n]); e != api.OK {
			t.Fatal(i, e)
		}
	}
	alone(t, a, x, l)
	if x.Height() < 3 {
		t.Error(x.Height())
	}
	a.Limit(0)
	for i := range n {
		if e := x.Delete(l[i*5003%n]); e != api.OK {
			t.Fatal(i, e)
		}
		if i%1000 == 0 {
			gone := map[string]int{}
			for j := range i + 1 {
				gone[l[j*5003%n]] = j
			}
			alone(t, a, x, slices.DeleteFunc(slices.Clone(l), func(s string) bool {
				_, ok := gone[s]
				return ok
			}))
		}
	}
	alone(t, a, x, nil)
	if x.Height() != 1 || a.Used() != 1 {
		t.Error(x.Head(), a.Used())
	}
}
