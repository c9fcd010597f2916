package pred_test

import (
	"fmt"
	"math/rand/v2"
	"slices"
	"strings"
	"sync"
	"testing"
	"unsafe"

	"tripwire/api"
	"tripwire/check"
	"tripwire/pred"
)

// given is the arguments of calls, which nobody else has.
type given struct {
	l    []check.Node
	c    pred.Cond
	rows [][]api.Value
}

// givenByChance is the same for the same number, and then shares no memory. Many of its texts aren't empty.
func givenByChance(seed uint64) given {
	r := rand.New(rand.NewPCG(175, seed))
	g := given{l: anyNodes(r), c: anyCond(r)}
	g.l = append(g.l, op("=", column(0), val(text("ab"))), op("<", val(text("a")), column(0)), op("or", op("=", column(0), val(text("ab"))), val(yes)))
	if r.IntN(2) == 0 {
		g.c = pred.Of(slices.Clone(g.l[len(g.l)-3:]))
	}
	g.rows = [][]api.Value{row(text("ab"), number(1)), anyRow(r), rowByChance(r), row(text("b")), nil}
	var own given
	own.l, own.c.Tests, own.c.Rest = ownNodes(g.l), slices.Clone(g.c.Tests), ownNodes(g.c.Rest)
	for i := range own.c.Tests {
		x := &own.c.Tests[i]
		x.Lo.V.S, x.Hi.V.S = strings.Clone(x.Lo.V.S), strings.Clone(x.Hi.V.S)
	}
	for _, r := range g.rows {
		r = slices.Clone(r)
		for i := range r {
			r[i].S = strings.Clone(r[i].S)
		}
		own.rows = append(own.rows, r)
	}
	return own
}

func ownNodes(l []check.Node) []check.Node {
	var own []check.Node
	for _, n := range l {
		n.Op, n.V.S, n.Kids = strings.Clone(n.Op), strings.Clone(n.V.S), ownNodes(n.Kids)
		own = append(own, n)
	}
	return own
}

// told is what a condition is, and which rows meet it, as text, which is new memory; an empty list and no list are one.
func told(c pred.Cond, rows [][]api.Value) string {
	s := fmt.Sprintf("%+v", c)
	for _, r := range rows {
		s += fmt.Sprint(" ", pred.Meets(c, r))
	}
	return s
}

// filled is an Index with some conditions.
func filled(g given) *pred.Index {
	x := pred.New()
	x.Add(3, g.c)
	x.Add(-2, pred.Of(g.l))
	for i, n := range g.l {
		x.Add(10+i, pred.Cond{Rest: []check.Node{n}})
		x.Add(-10-i, pred.Of([]check.Node{n}))
	}
	return x
}

func matches(x *pred.Index, rows [][]api.Value) string {
	s := fmt.Sprint(x.Len())
	for _, r := range rows {
		s += fmt.Sprint(" ", x.Match(r))
	}
	return s
}

// ask is all that is answered of the arguments, as text.
func (g given) ask() string {
	return told(pred.Of(g.l), g.rows) + told(g.c, g.rows) + matches(filled(g), g.rows)
}

// eachNode hands on each node of a list and all within, what is deeper first.
func eachNode(l []check.Node, f func(*check.Node)) {
	for i := range l {
		eachNode(l[i].Kids, f)
		f(&l[i])
	}
}

// eachText hands on all texts of a condition.
func eachText(c pred.Cond, f func(*string)) {
	eachNode(c.Rest, func(n *check.Node) { f(&n.Op); f(&n.V.S) })
	for i := range c.Tests {
		f(&c.Tests[i].Lo.V.S)
		f(&c.Tests[i].Hi.V.S)
	}
}

// inBytes lays each text into bytes that may be written over.
func inBytes(c pred.Cond) [][]byte {
	var l [][]byte
	eachText(c, func(s *string) {
		if b := []byte(*s); len(b) > 0 {
			*s = unsafe.String(&b[0], len(b))
			l = append(l, b)
		}
	})
	return l
}

// spoil writes over the bytes, then over all else of a condition, up to where its lists' room ends.
func spoil(c pred.Cond, l [][]byte) {
	for _, b := range l {
		for i := range b {
			b[i] = '#'
		}
	}
	eachNode(c.Rest[:cap(c.Rest)], func(n *check.Node) {
		clear(n.Kids[:cap(n.Kids)])
		*n = val(no)
	})
	for i := range c.Tests {
		c.Tests[i] = pred.Test{Col: -1}
	}
}

func withRoom[T any](l []T, with T) []T {
	n := len(l)
	return append(slices.Clone(l), with, with, with)[:n]
}

// roomy gives each list of the arguments room behind its end, in which something stands.
func (g *given) roomy() {
	give := func(n *check.Node) { n.Kids = withRoom(n.Kids, val(text("room"))) }
	eachNode(g.l, give)
	eachNode(g.c.Rest, give)
	g.l, g.c.Rest = withRoom(g.l, val(text("room"))), withRoom(g.c.Rest, val(text("room")))
	g.c.Tests = withRoom(g.c.Tests, pred.Test{Col: 77})
	for i := range g.rows {
		g.rows[i] = withRoom(g.rows[i], text("room"))
	}
}

// whole is the arguments told as text, with what stands behind each list's end.
func (g *given) whole() string {
	var b strings.Builder
	tell := func(n *check.Node) { fmt.Fprintf(&b, "%#v", n.Kids[:cap(n.Kids)]) }
	eachNode(g.l, tell)
	eachNode(g.c.Rest, tell)
	fmt.Fprintf(&b, "%#v %#v %#v", g.l[:cap(g.l)], g.c.Rest[:cap(g.c.Rest)], g.c.Tests[:cap(g.c.Tests)])
	for _, r := range g.rows {
		fmt.Fprintf(&b, "%#v", r[:cap(r)])
	}
	return b.String()
}

func TestNoArgumentIsWrittenInto(t *testing.T) {
	for seed := range uint64(2000) {
		g := givenByChance(seed)
		want := g.ask()
		g.roomy()
		was := g.whole()
		for range 2 {
			if got := g.ask(); got != want {
				t.Fatalf("%s, not %s", short(got), short(want))
			}
			if g.whole() != was {
				t.Fatalf("%s was written into", short(g))
			}
		}
	}
}

// What Of answers shares nothing with the nodes: they, and the bytes of their texts, may become others.
func TestConditionsAreNewMemory(t *testing.T) {
	tests, rest := 0, 0
	for seed := range uint64(3000) {
		same := givenByChance(seed)
		want := told(pred.Of(same.l), same.rows)
		g := givenByChance(seed)
		from := pred.Cond{Rest: g.l}
		bytes := inBytes(from)
		got := pred.Of(g.l)
		spoil(from, bytes)
		if told(got, g.rows) != want {
			t.Fatalf("%s, not %s, when the nodes have become others", short(told(got, g.rows)), short(want))
		}
		tests, rest = tests+len(got.Tests), rest+len(got.Rest)
	}
	if tests < 2000 || rest < 2000 {
		t.Error(tests, rest, "too few to tell anything")
	}
}

// What an Index keeps shares nothing with what was put in.
func TestAddedConditionsAreNewMemory(t *testing.T) {
	for seed := range uint64(3000) {
		same, g := givenByChance(seed), givenByChance(seed)
		want := matches(filled(same), same.rows)
		first, second := inBytes(g.c), inBytes(pred.Cond{Rest: g.l})
		x := filled(g)
		if got := matches(x, same.rows); got != want {
			t.Fatalf("%s, not %s", short(got), short(want))
		}
		spoil(g.c, first)
		spoil(pred.Cond{Rest: g.l}, second)
		if got := matches(x, same.rows); got != want {
			t.Fatalf("%s, not %s, when what was put in has become another", short(got), short(want))
		}
	}
}

// Each part of a condition on its own becomes another, so that the other ones don't hide it.
func TestEachPartOfAConditionIsKept(t *testing.T) {
	r := row(text("ab"), yes)
	for name, change := range map[string]func(c pred.Cond){
		"a column":    func(c pred.Cond) { c.Tests[0].Col = 9 },
		"a lower one": func(c pred.Cond) { c.Tests[0].Lo.V = text("b") },
		"an upper":    func(c pred.Cond) { c.Tests[0].Hi.V = text("a") },
		"a test":      func(c pred.Cond) { c.Tests[1] = pred.Test{Col: -1} },
		"a node":      func(c pred.Cond) { c.Rest[1] = val(no) },
		"an op":       func(c pred.Cond) { c.Rest[0].Op = "and" },
		"a Kid":       func(c pred.Cond) { c.Rest[0].Kids[1] = val(no) },
		"a deep Kid":  func(c pred.Cond) { c.Rest[0].Kids[1].Kids[0] = val(yes) },
		"a list":      func(c pred.Cond) { c.Rest[0].Kids[1].Kids = nil },
	} {
		at := bound("[v", "[", text("ab"))
		c := pred.Cond{Tests: []pred.Test{{Col: 0, Lo: at, Hi: at}, {Col: 1}}, Rest: nodes(op("or", val(no), op("not", val(no))), column(1))}
		x := pred.New()
		x.Add(4, c)
		change(c)
		if got := x.Match(r); !slices.Equal(got, []int{4}) || pred.Meets(c, r) {
			t.Errorf("%s: %v, %v", name, got, pred.Meets(c, r))
		}
	}
}

// What is done with an answer changes no argument, no other answer, and nothing that is kept.
func TestAnswersMayBeWrittenInto(t *testing.T) {
	for seed := range uint64(2000) {
		g := givenByChance(seed)
		was, want := fmt.Sprintf("%#v", g), g.ask()
		kept, x := pred.Of(g.l), filled(g)
		keptWas, matched := told(kept, g.rows), matches(x, g.rows)
		for range 2 {
			c := pred.Of(g.l)
			x.Add(99, c)
			eachText(c, func(s *string) {
				if *s != "" {
					clear(unsafe.Slice(unsafe.StringData(*s), len(*s)))
				}
			})
			spoil(c, nil)
			x.Cut(99)
			for _, r := range g.rows {
				l := x.Match(r)
				clear(l[:cap(l)])
			}
			if fmt.Sprintf("%#v", g) != was || g.ask() != want || told(kept, g.rows) != keptWas || matches(x, g.rows) != matched {
				t.Fatalf("%s: an answer that was written into changed something else", short(g))
			}
		}
	}
}

// places is where the texts and the lists of a condition begin.
func places(c pred.Cond) []uintptr {
	var l []uintptr
	eachText(c, func(s *string) {
		if *s != "" {
			l = append(l, uintptr(unsafe.Pointer(unsafe.StringData(*s))))
		}
	})
	eachNode(c.Rest, func(n *check.Node) {
		if cap(n.Kids) > 0 {
			l = append(l, uintptr(unsafe.Pointer(unsafe.SliceData(n.Kids))))
		}
	})
	return l
}

// No two texts or lists of an answer are in one place, nor in one of the argument's, where they all are.
func TestPartsOfAnAnswerAreTheirOwn(t *testing.T) {
	s := "ab"
	same := nodes(val(text(s)), column(0))
	l := []check.Node{{Op: "=", Kids: same}, {Op: "<>", Kids: same}, {Op: "<>", Kids: same}, {Op: "<=", Kids: same}, {Op: "or", Kids: []check.Node{{Op: "<>", Kids: same}, {Op: "<>", Kids: same}}}}
	c := pred.Of(l)
	if len(c.Tests) != 2 || len(c.Rest) != 3 {
		t.Fatalf("%+v", c)
	}
	seen := map[uintptr]bool{}
	for _, p := range places(pred.Cond{Rest: l}) {
		seen[p] = true
	}
	for _, p := range places(c) {
		if seen[p] {
			t.Errorf("%+v: two parts share memory", c)
		}
		seen[p] = true
	}
	if len(seen) < 20 {
		t.Error(len(seen))
	}
}

// A row isn't kept: another one in its memory is another one.
func TestRowsAreNotKept(t *testing.T) {
	x := pred.New()
	x.Add(1, pred.Of(nodes(op("=", column(0), val(text("a"))))))
	x.Add(2, pred.Of(nodes(op("<>", column(0), val(text("a"))))))
	b := []byte("a")
	r := row(api.Value{Kind: api.Text, S: unsafe.String(&b[0], 1)})
	for i, want := range [][]int{{1}, {2}, {1}, {2}} {
		b[0] = "ab"[i%2]
		if got := x.Match(r); !slices.Equal(got, want) {
			t.Error(i, got, want)
		}
	}
	r[0] = null
	if got := x.Match(r); got != nil {
		t.Error(got)
	}
}

// A call hangs on nothing but its arguments and its Index, neither on earlier ones nor on ones at the same time.
func TestCallsOneBesideTheOther(t *testing.T) {
	var l []given
	var want []string
	for seed := range uint64(200) {
		g := givenByChance(seed)
		l, want = append(l, g), append(want, g.ask())
	}
	var all sync.WaitGroup
	for from := range 8 {
		all.Go(func() {
			for i := range l {
				at := (i + from*17) % len(l)
				if got := l[at].ask(); got != want[at] {
					t.Errorf("%s, not %s", short(got), short(want[at]))
				}
			}
		})
	}
	all.Wait()
}
