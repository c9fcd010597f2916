package alpha_test

import (
	"fmt"
	"math/rand/v2"
	"slices"
	"strings"
	"sync"
	"testing"
	"unsafe"

	"tripwire/alpha"
	"tripwire/api"
	"tripwire/check"
	"tripwire/pred"
)

// given is the arguments of calls.
type given struct {
	conds []pred.Cond
	rows  []api.Row
}

// givenByChance is the same for the same number.
func givenByChance(seed uint64) given {
	r := rand.New(rand.NewPCG(187, seed))
	g := given{conds: []pred.Cond{anyCond(r), cond("b = 'x'"), cond("NOT b = 'x' AND (a > 2 OR b < 'y')"), cond(pick(r, asked()...))}}
	for id := range 8 {
		g.rows = append(g.rows, at(id, pick(r, valuesByChance(r), valuesByChance(r), anyRow(r))))
	}
	return g
}

// filled is a set of these conditions over some of the rows; of the others one is noted as each of them.
func filled(g given) *alpha.Set {
	s := alpha.New()
	for key, c := range g.conds {
		s.Add(key, c, g.rows[:4])
	}
	g.note(s)
	return s
}

func (g given) note(s *alpha.Set) {
	var was []api.Value
	for _, r := range g.rows {
		s.Note(50, was, r.Values)
		s.Note(60+r.ID, nil, r.Values)
		was = r.Values
	}
	s.Note(1, g.rows[1].Values, g.rows[2].Values)
}

// told is all that a set has, as text, which is new memory.
func told(s *alpha.Set) string {
	t := fmt.Sprint(len(s.Keys()), s.Keys())
	for _, key := range s.Keys() {
		ids, there := s.IDs(key)
		t += fmt.Sprint(" ", key, len(ids), ids, there)
	}
	return t
}

// eachNode hands on each node of a list and all within, what is deeper first.
func eachNode(l []check.Node, f func(*check.Node)) {
	for i := range l {
		eachNode(l[i].Kids, f)
		f(&l[i])
	}
}

// eachText hands on all texts of the arguments.
func (g given) eachText(f func(*string)) {
	for _, c := range g.conds {
		for i := range c.Tests {
			f(&c.Tests[i].Lo.V.S)
			f(&c.Tests[i].Hi.V.S)
		}
		eachNode(c.Rest, func(n *check.Node) { f(&n.Op); f(&n.V.S) })
	}
	for _, r := range g.rows {
		for i := range r.Values {
			f(&r.Values[i].S)
		}
	}
}

// inBytes lays each text into bytes that may be written over, and is what does that to them.
func (g given) inBytes() (over func()) {
	var all [][]byte
	g.eachText(func(s *string) {
		if b := []byte(*s); len(b) > 0 {
			*s = unsafe.String(&b[0], len(b))
			all = append(all, b)
		}
	})
	return func() {
		for _, b := range all {
			copy(b, strings.Repeat("#", len(b)))
		}
	}
}

// spoil makes all else of the arguments another one.
func (g given) spoil() {
	for i, c := range g.conds {
		eachNode(c.Rest, func(n *check.Node) {
			clear(n.Kids)
			*n = check.Node{Op: "value", V: truth(0)}
		})
		for k := range c.Tests {
			c.Tests[k] = pred.Test{Col: -1}
		}
		g.conds[i] = pred.Cond{}
	}
	for i := range g.rows {
		clear(g.rows[i].Values)
		g.rows[i] = at(-9, nil)
	}
}

// What a set keeps shares nothing with what was put in or noted.
func TestWhatWasHandedInMayBecomeAnother(t *testing.T) {
	some := 0
	for seed := range uint64(2000) {
		same, g := givenByChance(seed), givenByChance(seed)
		kept := filled(same)
		want := told(kept)
		some += strings.Count(want, "50")
		over := g.inBytes()
		s := filled(g)
		if got := told(s); got != want {
			t.Fatalf("%s, not %s", got, want)
		}
		over()
		g.spoil()
		if got := told(s); got != want {
			t.Fatalf("%s, not %s, when what was put in has become another", got, want)
		}
		for _, x := range []*alpha.Set{s, kept} { // the conditions are what they were, too
			x.Note(1, same.rows[2].Values, same.rows[3].Values)
			x.Note(50, same.rows[7].Values, same.rows[0].Values)
			same.note(x)
		}
		if told(s) != told(kept) {
			t.Fatalf("%s, not %s, when what was put in has become another", told(s), told(kept))
		}
	}
	if some < 1000 {
		t.Error(some, "too few to tell anything")
	}
}

// Each part of a condition on its own becomes another, so that the other ones don't hide it.
func TestEachPartOfAConditionIsKept(t *testing.T) {
	meets := row(number(5), text("x"), truth(1))
	for name, change := range map[string]func(c pred.Cond){
		"a column":   func(c pred.Cond) { c.Tests[0].Col = 9 },
		"a bound":    func(c pred.Cond) { c.Tests[0].Lo.V = number(7) },
		"a test":     func(c pred.Cond) { c.Tests[1] = pred.Test{Col: -1} },
		"a node":     func(c pred.Cond) { c.Rest[0] = check.Node{Op: "value", V: truth(0)} },
		"an op":      func(c pred.Cond) { c.Rest[0].Op = "and" },
		"a deep Kid": func(c pred.Cond) { c.Rest[0].Kids[1].Kids[1].V = text("x") },
	} {
		c := cond("a > 3 AND b = 'x' AND (a < 2 OR b <> 'y')")
		if len(c.Tests) != 2 || len(c.Rest) != 1 || !pred.Meets(c, meets) {
			t.Fatalf("%+v", c)
		}
		s := alpha.New()
		wantOK(t, s.Add(0, c, nil))
		change(c)
		if s.Note(1, nil, meets); pred.Meets(c, meets) {
			t.Error(name, "is hidden")
		}
		wantIDs(t, s, 0, 1)
		s.Note(1, meets, nil)
		wantIDs(t, s, 0)
	}
}

func withRoom[T any](l []T, with T) []T {
	n := len(l)
	return append(slices.Clone(l), with, with, with)[:n]
}

// roomy gives each list of the arguments room behind its end, in which something stands.
func (g given) roomy() {
	room := check.Node{Op: "value", V: text("room")}
	for i := range g.conds {
		c := &g.conds[i]
		eachNode(c.Rest, func(n *check.Node) { n.Kids = withRoom(n.Kids, room) })
		c.Rest, c.Tests = withRoom(c.Rest, room), withRoom(c.Tests, pred.Test{Col: 77})
	}
	for i := range g.rows {
		g.rows[i].Values = withRoom(g.rows[i].Values, text("room"))
	}
}

// whole is the arguments told as text, with what stands behind each list's end.
func (g given) whole() string {
	var b strings.Builder
	for _, c := range g.conds {
		eachNode(c.Rest, func(n *check.Node) { fmt.Fprintf(&b, "%#v", n.Kids[:cap(n.Kids)]) })
		fmt.Fprintf(&b, "%#v %#v", c.Rest[:cap(c.Rest)], c.Tests[:cap(c.Tests)])
	}
	for _, r := range g.rows[:cap(g.rows)] {
		fmt.Fprintf(&b, "%d %#v", r.ID, r.Values[:cap(r.Values)])
	}
	return b.String()
}

func TestNoArgumentIsWrittenInto(t *testing.T) {
	for seed := range uint64(1000) {
		g, want := givenByChance(seed), told(filled(givenByChance(seed)))
		g.rows = withRoom(g.rows, at(99, of(5)))
		g.roomy()
		was := g.whole()
		for range 2 {
			if got := told(filled(g)); got != want {
				t.Fatalf("%s, not %s", got, want)
			}
			if g.whole() != was {
				t.Fatalf("%s was written into", short(g))
			}
		}
	}
}

// overwrite writes over a list, up to where its room ends.
func overwrite(l []int) {
	l = l[:cap(l)]
	for i := range l {
		l[i] = -77
	}
}

// answers is all that a set answers, keys first.
func answers(s *alpha.Set) [][]int {
	l := [][]int{s.Keys()}
	for _, key := range s.Keys() {
		ids, _ := s.IDs(key)
		l = append(l, ids)
	}
	return l
}

// What is done with an answer changes no other answer, and nothing that is kept.
func TestAnswersMayBeWrittenInto(t *testing.T) {
	for seed := range uint64(1000) {
		s := filled(givenByChance(seed))
		was, first := told(s), answers(s)
		for range 2 {
			for at, l := range answers(s) {
				if overwrite(l); fmt.Sprint(first) != fmt.Sprint(answers(filled(givenByChance(seed)))) {
					t.Fatalf("an answer that was written into changed another one: %d, %v", at, first)
				}
			}
			if told(s) != was {
				t.Fatalf("%s, not %s: an answer that was written into changed what is kept", told(s), was)
			}
		}
	}
}

// What was answered stays what it was, whatever becomes of the set.
func TestAnswersStay(t *testing.T) {
	s := with(t, "a > 3", at(1, of(5)), at(2, of(4)), at(3, of(9)))
	ids, _ := s.IDs(0)
	keys := s.Keys()
	s.Note(2, of(4), nil)
	s.Note(0, nil, of(6))
	wantIDs(t, s, 0, 0, 1, 3)
	wantOK(t, s.Add(-1, cond("TRUE"), nil), s.Cut(0))
	wantKeys(t, s, -1)
	wantIDs(t, s, -1)
	if !slices.Equal(ids, []int{1, 2, 3}) || !slices.Equal(keys, []int{0}) {
		t.Error(ids, keys)
	}
}

// A row's values aren't kept: what was is what a Note tells, even where both are of one list.
func TestRowsAreNotKept(t *testing.T) {
	v := of(5)
	s := with(t, "a > 3", at(1, v))
	v[0] = number(1)
	wantIDs(t, s, 0, 1)
	s.Note(1, v, v)
	s.Note(2, nil, v)
	wantIDs(t, s, 0, 1)
	v[0] = number(6)
	wantIDs(t, s, 0, 1)
	s.Note(3, v[:0], v)
	wantIDs(t, s, 0, 1, 3)
	s.Note(3, v, v[:0])
	wantIDs(t, s, 0, 1)
}

// A call hangs on nothing but its arguments and its Set, neither on earlier ones nor on ones at the same time.
func TestCallsOneBesideTheOther(t *testing.T) {
	var l []given
	var want []string
	for seed := range uint64(100) {
		g := givenByChance(seed)
		l, want = append(l, g), append(want, told(filled(g)))
	}
	var all sync.WaitGroup
	for from := range 8 {
		all.Go(func() {
			for i := range l {
				at := (i + from*17) % len(l)
				if got := told(filled(l[at])); got != want[at] {
					t.Errorf("%s, not %s", got, want[at])
				}
			}
		})
	}
	all.Wait()
}
