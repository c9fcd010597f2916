package fault_test

import (
	"slices"
	"strconv"
	"testing"

	"tripwire/api"
	"tripwire/fault"
)

// What the tests here run are small programs of stops and catches. Each is run twice: over layer 1, and by a
// reading of the chapter's words that hands faults back as values and knows no panic.

const (
	mark = iota
	stop
	catch
	undo
	first
)

// step is one thing that a program does; parts are the programs that are called within it.
type step struct {
	kind  int
	fault api.Fault
	parts []program
}

type program []step

// trace is what was done, in its order.
type trace []string

func (t *trace) note(kind string, k int, x api.Fault) {
	*t = append(*t, kind+" "+strconv.Itoa(k)+" "+strconv.Itoa(int(x.Code))+" "+strconv.Itoa(x.At))
}

// run carries a program out over layer 1.
func (t *trace) run(p program) {
	for i, s := range p {
		switch s.kind {
		case mark:
			t.note("mark", i, api.Fault{})
		case stop:
			fault.Stop(s.fault.Code, s.fault.At)
		case catch:
			t.note("catch", i, fault.Catch(t.calls(s)[0]))
		case undo:
			l := t.calls(s)
			t.note("undo", i, fault.Undo(l[0], l[1]))
		case first:
			k, x := fault.First(t.calls(s)...)
			t.note("first", k, x)
		}
	}
}

func (t *trace) calls(s step) []func() {
	var l []func()
	for i, p := range s.parts {
		l = append(l, func() {
			t.note("call", i, api.Fault{})
			t.run(p)
		})
	}
	return l
}

// read carries a program out by the chapter's words: the fault with which it stops, if it does.
func (t *trace) read(p program) (api.Fault, bool) {
	for i, s := range p {
		switch s.kind {
		case mark:
			t.note("mark", i, api.Fault{})
		case stop:
			if s.fault.Code != api.OK {
				return s.fault, true
			}
		case catch:
			x, _ := t.readPart(s, 0)
			t.note("catch", i, x)
		case undo:
			x, stopped := t.readPart(s, 0)
			if stopped {
				if y, again := t.readPart(s, 1); again {
					x = y
				}
			}
			t.note("undo", i, x)
		case first:
			k, x := t.readFirst(s)
			t.note("first", k, x)
		}
	}
	return api.Fault{}, false
}

func (t *trace) readPart(s step, i int) (api.Fault, bool) {
	t.note("call", i, api.Fault{})
	return t.read(s.parts[i])
}

func (t *trace) readFirst(s step) (int, api.Fault) {
	for i := range s.parts {
		if x, stopped := t.readPart(s, i); stopped {
			return i, x
		}
	}
	return -1, api.Fault{}
}

// flat are programs without a catch.
func flat() []program {
	m := step{kind: mark}
	return []program{
		{m},
		{step{kind: stop, fault: api.Fault{At: 5}}, m},
		{m, step{kind: stop, fault: api.Fault{Code: api.ErrNull, At: 4}}, m},
		{step{kind: stop, fault: api.Fault{Code: api.ErrLog, At: -4}}, m},
	}
}

// around are programs that catch what l has, alone and in pairs, and then come to their end or stop.
func around(l []program) []program {
	steps := []step{{kind: first}}
	for _, p := range l {
		steps = append(steps, step{kind: catch, parts: []program{p}}, step{kind: first, parts: []program{p}})
		for _, q := range l {
			pair := []program{p, q}
			steps = append(steps, step{kind: undo, parts: pair}, step{kind: first, parts: pair})
		}
	}
	var out []program
	for _, s := range steps {
		m := step{kind: mark}
		out = append(out, program{s, m}, program{m, s, step{kind: stop, fault: api.Fault{Code: api.ErrForm, At: 9}}, m})
	}
	return out
}

func TestWithinOneAnother(t *testing.T) {
	one := append(flat(), around(flat())...)
	two := around(one)
	for _, p := range slices.Concat(one, two) {
		var got, want trace
		outer := fault.Catch(func() { got.run(p) })
		meant, _ := want.read(p)
		if outer != meant || !slices.Equal(got, want) {
			t.Fatalf("%+v:\n%v %q,\nby the words\n%v %q", p, outer, got, meant, want)
		}
	}
}

// TestDeepWithinOneAnother: each of many catches within one another ends by the stop that is raised right in it.
func TestDeepWithinOneAnother(t *testing.T) {
	p := flat()[2]
	for at := range 300 {
		s := step{kind: catch + at%3, parts: []program{p, flat()[at%4]}}
		if s.kind == catch {
			s.parts = s.parts[:1]
		}
		p = program{s, {kind: stop, fault: api.Fault{Code: api.ErrWork, At: at}}, {kind: mark}}
	}
	var got, want trace
	outer := fault.Catch(func() { got.run(p) })
	meant, _ := want.read(p)
	if outer != meant || outer.At != 299 || !slices.Equal(got, want) {
		t.Error(outer, meant, len(got), len(want))
	}
}
