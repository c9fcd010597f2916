package check_test

import (
	"fmt"
	"reflect"
	"slices"
	"sync"
	"testing"
	"unsafe"

	"tripwire/api"
	"tripwire/ast"
	"tripwire/check"
)

// call is one call of each function, with arguments that nobody else has; its answers are told as text.
type call struct {
	l     []check.Table
	from  []ast.Source
	own   string
	vars  []check.Var
	where []ast.Expr
	n     check.Node
}

// answers are all that the functions answer.
type answers struct {
	Table check.Table
	Vars  []check.Var
	Node  check.Node
	Cond  []check.Node
	Uses  []int
	Rest  string
}

// callByChance is the same for the same number, and then shares no memory.
func callByChance(seed uint64) call {
	vars, e := typedByChance(seed)
	_, other := typedByChance(seed)
	n, _, _ := check.Expr(vars, other)
	l := append(someTables(), check.Table{Name: "v", Cols: slices.Clone(someTables()[2].Cols)})
	own := []string{"t", "u", "w", "v", "no", ""}[seed%6]
	from := [][]ast.Source{
		{{Table: "t", Var: "x"}, {Kind: 1 + int(seed%4)}, {Table: "u"}},
		{{Table: "w"}, {Table: "w", Var: "y"}},
		{{Kind: 3, Var: "o"}, {Kind: 4, Var: "n"}},
		{{Table: "t"}, {Kind: 2, Var: "t"}},
	}[seed/6%4]
	return call{l, from, own, vars, []ast.Expr{e}, n}
}

func (c *call) ask() answers {
	var a answers
	var e [4]api.Errno
	var kind int
	a.Table, e[0] = check.Find(c.l, c.own)
	a.Vars, e[1] = check.Vars(c.l, c.from, c.own)
	a.Node, kind, e[2] = check.Expr(c.vars, c.where[0])
	a.Cond, e[3] = check.Cond(c.vars, c.where)
	a.Uses = check.Uses(c.n)
	a.Rest = fmt.Sprint(e, kind, check.Safe(c.n))
	return a
}

// parts are where all that a call is handed lies.
func (c *call) parts() []reflect.Value {
	return []reflect.Value{
		reflect.ValueOf(&c.l).Elem(), reflect.ValueOf(&c.from).Elem(), reflect.ValueOf(&c.own).Elem(),
		reflect.ValueOf(&c.vars).Elem(), reflect.ValueOf(&c.where).Elem(), reflect.ValueOf(&c.n).Elem(),
	}
}

func text(x any) string { return fmt.Sprintf("%+v", x) }

// roomy gives each list within v room behind its end, in which something stands, and hands on each such list whole.
func roomy(v reflect.Value, whole func(reflect.Value)) {
	switch v.Kind() {
	case reflect.Struct:
		for i := range v.NumField() {
			roomy(v.Field(i), whole)
		}
	case reflect.Slice:
		n := v.Len()
		for i := range n {
			roomy(v.Index(i), whole)
		}
		l := reflect.MakeSlice(v.Type(), n+3, n+3)
		reflect.Copy(l, v)
		for i := n; i < n+3; i++ {
			fill(l.Index(i))
		}
		whole(l)
		v.Set(l.Slice(0, n))
	}
}

// fill puts other things into all texts and numbers within v.
func fill(v reflect.Value) {
	switch v.Kind() {
	case reflect.Struct:
		for i := range v.NumField() {
			fill(v.Field(i))
		}
	case reflect.String:
		v.SetString("room")
	case reflect.Int:
		v.SetInt(-7)
	}
}

func TestNoArgumentIsWrittenInto(t *testing.T) {
	for seed := range uint64(2000) {
		c := callByChance(seed)
		want := text(c.ask())
		var lists []any
		for _, p := range c.parts() {
			roomy(p, func(l reflect.Value) { lists = append(lists, l.Interface()) })
		}
		was := fmt.Sprintf("%#v", lists)
		for range 2 {
			if got := text(c.ask()); got != want {
				t.Fatalf("%s, not %s", short(got), short(want))
			}
			if fmt.Sprintf("%#v", lists) != was {
				t.Fatalf("%s was written into", short(c))
			}
		}
	}
}

// loose makes each text within v one whose bytes may be written over, and hands on what writes them over.
func loose(v reflect.Value, each func(func())) {
	switch v.Kind() {
	case reflect.Struct:
		for i := range v.NumField() {
			loose(v.Field(i), each)
		}
	case reflect.Slice:
		for i := range v.Len() {
			loose(v.Index(i), each)
		}
		each(func() { v.Clear(); zero(v) })
	case reflect.String:
		if b := []byte(v.String()); len(b) > 0 {
			v.SetString(unsafe.String(&b[0], len(b)))
			each(func() { clear(b) })
		}
	}
}

// zero writes over the room behind a list's end, too.
func zero(v reflect.Value) {
	all := v.Slice(0, v.Cap())
	for i := range all.Len() {
		all.Index(i).SetZero()
	}
}

// What is answered shares nothing with what was handed in: all of that may become another behind the call.
func TestAnswersAreNewMemory(t *testing.T) {
	for seed := range uint64(2000) {
		same := callByChance(seed)
		want := text(same.ask())
		c := callByChance(seed)
		var over []func()
		for _, p := range c.parts() {
			loose(p, func(f func()) { over = append(over, f) })
		}
		got := c.ask()
		for _, f := range over {
			f()
		}
		if text(got) != want {
			t.Fatalf("%s, not %s, when what was handed in has become another", short(got), short(want))
		}
	}
}

// The parts of what is answered are told one by one: each may be written over, and the others stay.
func TestEachPartOfAnAnswerStands(t *testing.T) {
	l := someTables()
	x, _ := check.Find(l, "t")
	y, _ := check.Find(l, "t")
	clear(x.Cols)
	wantTable(t, l, "t", y)
	vars, _ := check.Vars(l, []ast.Source{{Table: "t"}, {Table: "t", Var: "y"}, {Kind: 1}, {Kind: 2}}, "t")
	for i := range vars {
		clear(vars[i].Cols)
		for j, v := range vars {
			if j > i && text(v.Cols) != text(someTables()[0].Cols) {
				t.Errorf("the columns of %d became others with those of %d", j, i)
			}
		}
	}
	if text(l) != text(someTables()) {
		t.Error(l)
	}
}

// span is where a list lies, with the room behind its end.
type span struct{ from, to uintptr }

// lists puts where each list within v lies behind others.
func lists(v reflect.Value, to []span) []span {
	switch v.Kind() {
	case reflect.Struct:
		for i := range v.NumField() {
			to = lists(v.Field(i), to)
		}
	case reflect.Slice:
		if v.Cap() > 0 {
			to = append(to, span{v.Pointer(), v.Pointer() + uintptr(v.Cap())*v.Type().Elem().Size()})
		}
		for i := range v.Len() {
			to = lists(v.Index(i), to)
		}
	}
	return to
}

// No two lists of the answers, nor of those and the arguments, share memory.
func TestNoTwoListsShareMemory(t *testing.T) {
	for seed := range uint64(2000) {
		c := callByChance(seed)
		l := lists(reflect.ValueOf(c.ask()), lists(reflect.ValueOf(c.ask()), nil))
		for _, p := range c.parts() {
			l = lists(p, l)
		}
		slices.SortFunc(l, func(a, b span) int { return int(a.from) - int(b.from) })
		for i := range l {
			if i > 0 && l[i-1].to > l[i].from {
				t.Fatalf("%s: two lists share memory", short(c))
			}
		}
	}
}

// Kids that share their memory have nodes that don't.
func TestSharedKids(t *testing.T) {
	e := op("=", dot("x", "a"), dot("u", "a"))
	for range 4 {
		e = op("and", e, e)
	}
	n, _, err := check.Expr(someVars(), e)
	all, _ := check.Cond(someVars(), []ast.Expr{e})
	if err != api.OK || len(all) != 16 {
		t.Fatal(err, len(all))
	}
	l := lists(reflect.ValueOf(all), lists(reflect.ValueOf(n), nil))
	slices.SortFunc(l, func(a, b span) int { return int(a.from) - int(b.from) })
	for i := range l {
		if i > 0 && l[i-1].to > l[i].from {
			t.Fatal("two lists share memory")
		}
	}
}

// What is done with an answer changes no later one.
func TestAnswersMayBeWrittenInto(t *testing.T) {
	for seed := range uint64(1000) {
		c := callByChance(seed)
		want := text(c.ask())
		for range 3 {
			a := c.ask()
			if text(a) != want {
				t.Fatalf("%s behind a call whose answer was written into, not %s", short(a), short(want))
			}
			over(reflect.ValueOf(&a).Elem())
		}
	}
}

// over puts other things into all lists within v, and behind their ends.
func over(v reflect.Value) {
	switch v.Kind() {
	case reflect.Struct:
		for i := range v.NumField() {
			over(v.Field(i))
		}
	case reflect.Slice:
		for i := range v.Len() {
			over(v.Index(i))
		}
		zero(v)
	}
}

// A call hangs on nothing but its arguments, neither on earlier ones nor on ones at the same time.
func TestCallsOneBesideTheOther(t *testing.T) {
	var calls []call
	var want []string
	for seed := range uint64(200) {
		c := callByChance(seed)
		calls, want = append(calls, c), append(want, text(c.ask()))
	}
	var all sync.WaitGroup
	for from := range 8 {
		all.Go(func() {
			for i := range calls {
				at := (i + from*17) % len(calls)
				if got := text(calls[at].ask()); got != want[at] {
					t.Errorf("%s, not %s", short(got), short(want[at]))
				}
			}
		})
	}
	all.Wait()
}

// An empty list and no list are one.
func TestEmptyListsAreNone(t *testing.T) {
	for _, e := range []ast.Expr{num(1), col("b"), {Op: "value", Kids: []ast.Expr{}}, {Op: "column", Col: "c", Kids: make([]ast.Expr, 0, 2)}} {
		n, _, err := check.Expr(someVars(), e)
		if err != api.OK || len(n.Kids) != 0 {
			t.Error(n, err)
		}
	}
	for _, l := range [][]api.Column{nil, {}, make([]api.Column, 0, 3)} {
		x, e := check.Find([]check.Table{{Name: "t", Cols: l}}, "t")
		v, f := check.Vars([]check.Table{{Name: "t", Cols: l}}, []ast.Source{{Table: "t"}}, "")
		if e != api.OK || len(x.Cols) != 0 || f != api.OK || len(v) != 1 || len(v[0].Cols) != 0 {
			t.Error(x, e, v, f)
		}
	}
	wantUses(t, check.Node{Op: "column", Kids: []check.Node{}}, 0)
	wantSafe(t, check.Node{Op: "value", Kids: []check.Node{}}, true)
}
