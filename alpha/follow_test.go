package alpha_test

import (
	"fmt"
	"math/rand/v2"
	"slices"
	"testing"

	"tripwire/alpha"
	"tripwire/api"
	"tripwire/check"
	"tripwire/expr"
	"tripwire/pred"
)

// note is what is noted of a row.
type note struct {
	id      int
	was, is []api.Value
}

func (n note) tell(s *alpha.Set) { s.Note(n.id, n.was, n.is) }

// back is the note that takes it back.
func (n note) back() note { return note{n.id, n.is, n.was} }

// world is all rows that there are.
type world map[int][]api.Value

// put makes a row anew, and is the note of it.
func (w world) put(id int, is []api.Value) note {
	n := note{id, w[id], is}
	if w[id] = is; len(is) == 0 {
		delete(w, id)
	}
	return n
}

// rows is all rows, rising or not.
func (w world) rows(r *rand.Rand) []api.Row {
	var l []api.Row
	for id, v := range w {
		l = append(l, at(id, v))
	}
	slices.SortFunc(l, func(a, b api.Row) int { return a.ID - b.ID })
	r.Shuffle(len(l), func(i, k int) { l[i], l[k] = l[k], l[i] })
	return l
}

// having is the ids of the rows of which all nodes are true, rising.
func (w world) having(l []check.Node) []int {
	var ids []int
	for id, v := range w {
		if all, _ := expr.All(l, [][]api.Value{v}); all {
			ids = append(ids, id)
		}
	}
	slices.Sort(ids)
	return ids
}

// follower is a set that is told all that becomes of the rows, and what its memories ask.
type follower struct {
	*rand.Rand
	w     world
	s     *alpha.Set
	asked map[int][]check.Node
}

func follow(seed1, seed2 uint64) follower {
	return follower{rand.New(rand.NewPCG(seed1, seed2)), world{}, alpha.New(), map[int][]check.Node{}}
}

// add puts a memory over the rows that there are, in the stead of one that has the key.
func (f follower) add(t *testing.T, key int) {
	t.Helper()
	if f.asked[key] != nil {
		wantOK(t, f.s.Cut(key))
	}
	text := pick(f.Rand, asked()...)
	f.asked[key] = nodes(text)
	wantOK(t, f.s.Add(key, cond(text), f.w.rows(f.Rand)))
}

// step puts, changes or takes out a row, and notes it.
func (f follower) step() note {
	n := f.w.put(f.IntN(24)-12, pick(f.Rand, nil, []api.Value{}, valuesByChance(f.Rand), valuesByChance(f.Rand), valuesByChance(f.Rand)))
	n.tell(f.s)
	return n
}

// differs tells of which memory the ids aren't just those of the rows that meet what it asks.
func (f follower) differs() string {
	for key, l := range f.asked {
		if ids, there := f.s.IDs(key); !there || !slices.Equal(ids, f.w.having(l)) {
			return fmt.Sprintf("IDs(%d) of %s: %v, %v, not %v", key, short(l), ids, there, f.w.having(l))
		}
	}
	return ""
}

// Whenever a memory was added, it has just the ids of the rows that meet its condition, as long as all is noted.
func TestMemoriesFollowRows(t *testing.T) {
	has, lacks := 0, 0
	for seed := range uint64(300) {
		f := follow(183, seed)
		for key := range 4 {
			f.add(t, key)
		}
		for i := range 150 {
			n := f.step()
			if i%12 == 0 {
				f.add(t, f.IntN(16))
			}
			if d := f.differs(); d != "" {
				t.Fatalf("seed %d, behind %v: %s", seed, n, d)
			}
		}
		for _, l := range f.asked {
			ids := f.w.having(l)
			has, lacks = has+len(ids), lacks+len(f.w)-len(ids)
		}
	}
	if has < 10000 || lacks < 10000 {
		t.Error(has, lacks, "too few to tell anything")
	}
}

// all is what each memory has.
func (f follower) all() map[int][]int {
	ids := map[int][]int{}
	for _, key := range f.s.Keys() {
		ids[key], _ = f.s.IDs(key)
	}
	return ids
}

// wantBack takes notes back, the newest first, and holds each memory against what it had ahead of each of them; one that was
// only added later is held against the rows that there were.
func (f follower) wantBack(t *testing.T, notes []note, had []map[int][]int) {
	t.Helper()
	for i, n := range slices.Backward(notes) {
		n.back().tell(f.s)
		f.w.put(n.id, n.was)
		for key, ids := range had[i] {
			if l, there := f.s.IDs(key); !there || !slices.Equal(l, ids) {
				t.Fatalf("back to %d, IDs(%d): %v, %v, not %v", i, key, l, there, ids)
			}
		}
		if d := f.differs(); d != "" {
			t.Fatalf("back to %d: %s", i, d)
		}
	}
}

func TestNotesTakenBack(t *testing.T) {
	for seed := range uint64(300) {
		f := follow(184, seed)
		for range 10 {
			f.step()
		}
		for key := range 6 {
			f.add(t, key)
		}
		for round := range 3 {
			var notes []note
			var had []map[int][]int
			for i := range 60 {
				had = append(had, f.all())
				notes = append(notes, f.step())
				if i%20 == 0 {
					f.add(t, 6+3*round+i/20) // in the midst
				}
			}
			kept := f.IntN(60) // a savepoint: the others are taken back
			f.wantBack(t, notes[kept:], had[kept:])
		}
	}
}

// histories calls g with all notes that follow one another, of two rows, each of which isn't there, or meets a > 3 or doesn't.
func histories(many int, g func(ahead []api.Row, l []note)) {
	states := [][]api.Value{nil, of(1), of(5)}
	for _, a := range states {
		for _, b := range states {
			w := world{}
			w.put(1, a)
			w.put(-2, b)
			ahead := w.rows(rand.New(rand.NewPCG(185, 0)))
			var longer func(l []note)
			longer = func(l []note) {
				g(ahead, l)
				for id, was := range map[int][]api.Value{1: w[1], -2: w[-2]} {
					for _, is := range states {
						if len(l) < many {
							longer(append(l, w.put(id, is)))
							w.put(id, was)
						}
					}
				}
			}
			longer(nil)
		}
	}
}

func TestEveryShortHistory(t *testing.T) {
	count, above := 0, nodes("a > 3")
	histories(4, func(ahead []api.Row, l []note) {
		count++
		s, w, had := alpha.New(), world{}, [][]int{}
		wantOK(t, s.Add(1, pred.Of(above), ahead))
		for _, r := range ahead {
			w.put(r.ID, r.Values)
		}
		for i, n := range l {
			ids, _ := s.IDs(1)
			had = append(had, ids)
			n.tell(s)
			w.put(n.id, n.is)
			if ids, _ := s.IDs(1); !slices.Equal(ids, w.having(above)) {
				t.Fatalf("%v: behind %d: %v", l, i, ids)
			}
		}
		for i, n := range slices.Backward(l) {
			n.back().tell(s)
			if ids, _ := s.IDs(1); !slices.Equal(ids, had[i]) {
				t.Fatalf("%v: back to %d: %v, not %v", l, i, ids, had[i])
			}
		}
	})
	if count != 9*(1+6+36+216+1296) {
		t.Error(count)
	}
}

// Also notes of which no rows are kept are taken back, if a memory has an id just where what was told as was meets its condition.
func TestNotesOfAnyRowsTakenBack(t *testing.T) {
	all := 0
	for seed := range uint64(2000) {
		r := rand.New(rand.NewPCG(186, seed))
		s := alpha.New()
		what := cond(pick(r, asked()...))
		wantOK(t, s.Add(7, what, rowsByChance(r)))
		var notes []note
		var had [][]int
		for range 40 {
			n := note{numberByChance(r), rowByChance(r), rowByChance(r)}
			ids, _ := s.IDs(7)
			met := len(n.was) > 0 && pred.Meets(what, n.was)
			if slices.Contains(ids, n.id) == met {
				n.tell(s)
				notes, had = append(notes, n), append(had, ids)
			}
		}
		all += len(notes)
		for i, n := range slices.Backward(notes) {
			n.back().tell(s)
			if ids, _ := s.IDs(7); !slices.Equal(ids, had[i]) {
				t.Fatalf("seed %d, back to %d: %v, not %v", seed, i, ids, had[i])
			}
		}
	}
	if all < 30000 {
		t.Error(all, "too few to tell anything")
	}
}
