package expr_test

import (
	"fmt"
	"math/rand/v2"
	"slices"
	"strings"
	"sync"
	"testing"
	"unsafe"

	"tripwire/api"
	"tripwire/check"
	"tripwire/expr"
)

// call is the arguments of one call of each function, which nobody else has.
type call struct {
	l    []check.Node
	rows [][]api.Value
}

// answers are all that the functions answer.
type answers struct {
	values []api.Value
	all    bool
	row    []api.Value
	codes  []api.Errno
}

// callByChance is the same for the same number, and then shares no memory. Its nodes answer texts oftener than others.
func callByChance(seed uint64) call {
	r := rand.New(rand.NewPCG(19, seed))
	kind := pick(r, 1, 2, 3, 3, 3)
	c := call{rows: anyRows(r, kind)}
	for range r.IntN(5) {
		c.l = append(c.l, pick(r, anyNode(r, kind, 1), anyNode(r, kind, 3), val(text("s")), op("+", val(text("")), val(text("right"))), op("+", val(text("left")), val(text("")))))
	}
	return c
}

func (c call) ask() answers {
	var a answers
	for _, n := range c.l {
		v, e := expr.Eval(n, c.rows)
		a.values, a.codes = append(a.values, v), append(a.codes, e)
	}
	var e, f api.Errno
	a.all, e = expr.All(c.l, c.rows)
	a.row, f = expr.Row(c.l, c.rows)
	a.codes = append(a.codes, e, f)
	return a
}

// told is all of it as text, which is new memory.
func (a answers) told() string { return fmt.Sprintf("%#v %v %#v %v", a.values, a.all, a.row, a.codes) }

// eachNode hands on each node of the arguments, what is deeper first; eachText each text.
func (c *call) eachNode(f func(*check.Node)) {
	var through func(l []check.Node)
	through = func(l []check.Node) {
		for i := range l {
			through(l[i].Kids)
			f(&l[i])
		}
	}
	through(c.l)
}

func (c *call) eachText(f func(*string)) {
	c.eachNode(func(n *check.Node) { f(&n.Op); f(&n.V.S) })
	for _, row := range c.rows {
		for i := range row {
			f(&row[i].S)
		}
	}
}

// roomy gives each list of the arguments room behind its end, in which something stands.
func (c *call) roomy() {
	c.eachNode(func(n *check.Node) { n.Kids = withRoom(n.Kids, val(text("room"))) })
	c.l = withRoom(c.l, val(text("room")))
	for i := range c.rows {
		c.rows[i] = withRoom(c.rows[i], text("room"))
	}
	c.rows = withRoom(c.rows, []api.Value{text("room")})
}

func withRoom[T any](l []T, with T) []T {
	n := len(l)
	return append(slices.Clone(l), with, with, with)[:n]
}

// whole is a call's arguments told as text, with what stands behind each list's end.
func (c *call) whole() string {
	var b strings.Builder
	c.eachNode(func(n *check.Node) { fmt.Fprintf(&b, "%#v", n.Kids[:cap(n.Kids)]) })
	fmt.Fprintf(&b, "%#v", c.l[:cap(c.l)])
	for _, row := range c.rows {
		fmt.Fprintf(&b, "%#v", row[:cap(row)])
	}
	fmt.Fprintf(&b, "%#v", c.rows[:cap(c.rows)])
	return b.String()
}

func TestNoArgumentIsWrittenInto(t *testing.T) {
	for seed := range uint64(5000) {
		c := callByChance(seed)
		want := c.ask().told()
		c.roomy()
		was := c.whole()
		for range 2 {
			if got := c.ask().told(); got != want {
				t.Fatalf("%s, not %s", short(got), short(want))
			}
			if c.whole() != was {
				t.Fatalf("%s was written into", short(c))
			}
		}
	}
}

// What is answered shares nothing with what was handed in: all of that, and the bytes of its texts, may become others.
func TestAnswersAreNewMemory(t *testing.T) {
	texts := 0
	for seed := range uint64(5000) {
		same := callByChance(seed)
		want := same.ask().told()
		c := callByChance(seed)
		var bytes [][]byte
		c.eachText(func(s *string) {
			if b := []byte(*s); len(b) > 0 {
				*s = unsafe.String(&b[0], len(b))
				bytes = append(bytes, b)
			}
		})
		got := c.ask()
		for _, b := range bytes {
			for i := range b {
				b[i] = '#'
			}
		}
		c.eachNode(func(n *check.Node) { *n = val(yes) })
		for _, row := range c.rows {
			clear(row)
		}
		clear(c.rows)
		if got.told() != want {
			t.Fatalf("%s, not %s, when what was handed in has become another", short(got.told()), short(want))
		}
		for _, v := range slices.Concat(got.values, got.row) {
			if v.S != "" {
				texts++
			}
		}
	}
	if texts < 1000 {
		t.Errorf("%d texts: too few to tell anything", texts)
	}
}

// What is done with an answer changes no argument, and no other answer.
func TestAnswersMayBeWrittenInto(t *testing.T) {
	for seed := range uint64(3000) {
		c := callByChance(seed)
		was, want := fmt.Sprintf("%#v", c), c.ask().told()
		kept := c.ask()
		for range 3 {
			a := c.ask()
			for _, v := range slices.Concat(a.values, a.row) {
				if v.S != "" {
					clear(unsafe.Slice(unsafe.StringData(v.S), len(v.S)))
				}
			}
			clear(a.row[:cap(a.row)])
			if c.ask().told() != want || fmt.Sprintf("%#v", c) != was || kept.told() != want {
				t.Fatalf("%s: an answer that was written into changed something else", short(c))
			}
		}
	}
}

// The texts of one answer share no memory with one another, though they are of one column.
func TestTextsOfARowAreTheirOwn(t *testing.T) {
	rows := [][]api.Value{{text("abc")}}
	got, _ := expr.Row(nodes(column(0, 0), column(0, 0), op("+", column(0, 0), val(text(""))), op("+", val(text("")), column(0, 0))), rows)
	if len(got) != 4 {
		t.Fatal(got)
	}
	for i, v := range got {
		for k, w := range append(slices.Clone(got[:i]), rows[0][0]) {
			if unsafe.StringData(v.S) == unsafe.StringData(w.S) {
				t.Errorf("the texts %d and %d share memory", i, k)
			}
		}
	}
}

// A call hangs on nothing but its arguments, neither on earlier ones nor on ones at the same time.
func TestCallsOneBesideTheOther(t *testing.T) {
	var calls []call
	var want []string
	for seed := range uint64(300) {
		c := callByChance(seed)
		calls, want = append(calls, c), append(want, c.ask().told())
	}
	var all sync.WaitGroup
	for from := range 8 {
		all.Go(func() {
			for i := range calls {
				at := (i + from*17) % len(calls)
				if got := calls[at].ask().told(); got != want[at] {
					t.Errorf("%s, not %s", short(got), short(want[at]))
				}
			}
		})
	}
	all.Wait()
}
