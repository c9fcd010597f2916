package catalog_test

import (
	"fmt"
	"math/rand/v2"
	"reflect"
	"slices"
	"strings"
	"sync"
	"testing"
	"unsafe"

	"tripwire/api"
	"tripwire/ast"
	"tripwire/catalog"
	"tripwire/check"
)

// call is one call of each function, with arguments that nobody else has.
type call struct {
	c   catalog.Catalog
	s   ast.Stmt
	own string
}

// answers are all that the functions answer.
type answers struct {
	Behind         catalog.Catalog
	Compiled, When catalog.Plan
	E              [3]api.Errno
}

// callByChance is the same for the same number, and then shares no memory.
func callByChance(seed uint64) call {
	r := rand.New(rand.NewPCG(197, seed))
	m := maker{Rand: r, c: catalogByChance(r, 5+r.IntN(30)), wrong: 1000}
	own := m.table()
	return call{m.c, pick(r, m.stmt(), m.rule(), m.act(own), m.selection(own)), own}
}

func (x *call) ask() answers {
	var a answers
	a.Behind, a.E[0] = catalog.Apply(x.c, x.s)
	a.Compiled, a.E[1] = catalog.Compile(x.c, x.s, x.own)
	a.When, a.E[2] = catalog.When(x.c, x.s)
	return a
}

// parts are where all that a call is handed lies.
func (x *call) parts() []reflect.Value {
	return []reflect.Value{reflect.ValueOf(&x.c).Elem(), reflect.ValueOf(&x.s).Elem(), reflect.ValueOf(&x.own).Elem()}
}

// roomy gives each list within v room behind its end, in which something stands, and hands on each such list whole.
func roomy(v reflect.Value, whole func(reflect.Value)) {
	switch v.Kind() {
	case reflect.Struct:
		for i := range v.NumField() {
			roomy(v.Field(i), whole)
		}
	case reflect.Slice:
		n := v.Len()
		for i := range n {
			roomy(v.Index(i), whole)
		}
		l := reflect.MakeSlice(v.Type(), n+3, n+3)
		reflect.Copy(l, v)
		for i := n; i < n+3; i++ {
			room(l.Index(i))
		}
		whole(l)
		v.Set(l.Slice(0, n))
	}
}

// room puts other things into all texts and numbers within v.
func room(v reflect.Value) {
	switch v.Kind() {
	case reflect.Struct:
		for i := range v.NumField() {
			room(v.Field(i))
		}
	case reflect.String:
		v.SetString("room")
	case reflect.Int:
		v.SetInt(-7)
	}
}

func TestNoArgumentIsWrittenInto(t *testing.T) {
	count := map[api.Errno]int{}
	for seed := range uint64(400) {
		x := callByChance(seed)
		want := all(x.ask())
		var lists []any
		for _, p := range x.parts() {
			roomy(p, func(l reflect.Value) { lists = append(lists, l.Interface()) })
		}
		was := whole(lists)
		for range 2 {
			a := x.ask()
			for _, e := range a.E {
				count[e]++
			}
			if got := all(a); got != want {
				t.Fatalf("%s, not %s", short(got), short(want))
			}
			if whole(lists) != was {
				t.Fatalf("%s was written into", short(x))
			}
		}
	}
	if count[api.OK] < 500 {
		t.Error(count, "too few to tell anything")
	}
}

// loose makes each text within v one whose bytes may be written over, and hands on what writes them over.
func loose(v reflect.Value, each func(func())) {
	switch v.Kind() {
	case reflect.Struct:
		for i := range v.NumField() {
			loose(v.Field(i), each)
		}
	case reflect.Slice:
		for i := range v.Len() {
			loose(v.Index(i), each)
		}
		each(func() { over(v) })
	case reflect.String:
		if b := []byte(v.String()); len(b) > 0 {
			v.SetString(unsafe.String(&b[0], len(b)))
			each(func() { copy(b, strings.Repeat("#", len(b))) })
		}
	}
}

// over writes over a list, and over the room behind its end.
func over(v reflect.Value) {
	l := v.Slice(0, v.Cap())
	for i := range l.Len() {
		l.Index(i).SetZero()
	}
}

// What is answered shares nothing with what was handed in: all of that may become another behind the call.
func TestAnswersAreNewMemory(t *testing.T) {
	for seed := range uint64(800) {
		same := callByChance(seed)
		want := all(same.ask())
		x := callByChance(seed)
		var later []func()
		for _, p := range x.parts() {
			loose(p, func(f func()) { later = append(later, f) })
		}
		got := x.ask()
		for _, f := range later {
			f()
		}
		if all(got) != want {
			t.Fatalf("%s, not %s, when what was handed in has become another", short(got), short(want))
		}
	}
}

// Each statement of those that a catalog takes, one by one, with all that it may have.
func TestEachTextIsNewMemory(t *testing.T) {
	base := func() catalog.Catalog {
		return made("CREATE TABLE t (a INT, b TEXT)", "CREATE TABLE u (a INT)", "CREATE INDEX i ON t (b)", "CREATE RULE q PRIORITY 1 ON INSERT TO u ALWAYS DO ROLLBACK")
	}
	for _, text := range []string{
		"CREATE TABLE tab (col INT, column2 TEXT)",
		"CREATE INDEX ind ON t (a)",
		"CREATE RULE rul PRIORITY 1 ON INSERT TO t WHEN t x1, NEW x2 WHERE x1.b = 'text' AND x1.a > x2.a DO INSERT INTO t VALUES (12, 'text2'); INSERT INTO t SELECT x3.a, 's3' FROM t x3, OLD x4 WHERE x4.b = 's4'; UPDATE t SET b = 's5' WHERE t.b = 's6'; DELETE FROM u WHERE u.a = 1 END",
		"DROP TABLE t",
		"DROP INDEX i",
		"DROP RULE q",
		"INSERT INTO t VALUES (1, 'x' + 'text')",
		"INSERT INTO t SELECT x1.a, 'text' FROM t x1, INSERTED WHERE inserted.b = 'text2'",
		"UPDATE t SET a = a + 1, b = 'text' WHERE t.b = 'text2' AND a < 5",
		"DELETE FROM t WHERE t.b = 'text'",
		"SELECT * FROM t, u x1, DELETED WHERE t.b = 'text'",
	} {
		x, y := call{base(), read(text), "t"}, call{base(), read(text), "t"}
		want := all(x.ask())
		var later []func()
		for _, p := range y.parts() {
			loose(p, func(f func()) { later = append(later, f) })
		}
		got := y.ask()
		if slices.Index(got.E[:], api.OK) < 0 {
			t.Fatal(text, got.E)
		}
		for i, f := range later {
			if f(); all(got) != want {
				t.Fatalf("%s: %s, not %s, when the part %d of what was handed in has become another", text, short(got), short(want), i)
			}
		}
	}
}

// span is where a list lies, with the room behind its end.
type span struct{ from, to uintptr }

// spans puts where each list within v lies behind others.
func spans(v reflect.Value, to []span) []span {
	switch v.Kind() {
	case reflect.Struct:
		for i := range v.NumField() {
			to = spans(v.Field(i), to)
		}
	case reflect.Slice:
		if v.Cap() > 0 {
			to = append(to, span{v.Pointer(), v.Pointer() + uintptr(v.Cap())*v.Type().Elem().Size()})
		}
		for i := range v.Len() {
			to = spans(v.Index(i), to)
		}
	}
	return to
}

// shared tells whether two of these lists share memory.
func shared(l []span) bool {
	slices.SortFunc(l, func(a, b span) int { return int(a.from) - int(b.from) })
	for i := range l {
		if i > 0 && l[i-1].to > l[i].from {
			return true
		}
	}
	return false
}

// No two lists of the answers, nor of those and the arguments, share memory.
func TestNoTwoListsShareMemory(t *testing.T) {
	for seed := range uint64(800) {
		x := callByChance(seed)
		first, second := x.ask(), x.ask()
		l := spans(reflect.ValueOf(first), spans(reflect.ValueOf(second), nil))
		for _, p := range x.parts() {
			l = spans(p, l)
		}
		if shared(l) {
			t.Fatalf("%s: two lists share memory", short(x))
		}
	}
}

// Where lists of what is handed in share memory, those of the answer don't.
func TestSharedArguments(t *testing.T) {
	cols := []api.Column{{Name: "a", Type: 2}, {Name: "b", Type: 2}}
	e := ast.Expr{Op: "=", Kids: []ast.Expr{{Op: "column", Col: "a"}, {Op: "value", V: api.Value{Kind: 2, N: 1}}}}
	where := []ast.Expr{{Op: "and", Kids: []ast.Expr{e, e}}}
	act := ast.Stmt{Kind: ast.Delete, Table: "t", Where: where}
	rule := ast.Stmt{Kind: ast.Rule, Name: "r", Event: 1, Table: "t", From: []ast.Source{{Kind: 1}}, Where: where, Acts: []ast.Stmt{act, act}}
	twin := rule
	twin.Name = "q"
	c := catalog.Catalog{Tables: []check.Table{{Name: "t", Cols: cols}, {Name: "u", Cols: cols}}, Rules: []ast.Stmt{twin}}
	x := call{c, rule, "t"}
	a := x.ask()
	if a.E != [3]api.Errno{api.OK, api.ErrArg, api.OK} || len(a.Behind.Rules) != 2 {
		t.Fatal(a.E, order(a.Behind))
	}
	if shared(spans(reflect.ValueOf(a), nil)) {
		t.Error("two lists share memory")
	}
	x.s = ast.Stmt{Kind: ast.Select, From: []ast.Source{{Table: "t"}, {Table: "t", Var: "x"}, {Kind: 1}}, Items: []ast.Expr{{Op: "column", Var: "x", Col: "a"}}}
	if a = x.ask(); a.E[1] != api.OK || shared(spans(reflect.ValueOf(a), nil)) {
		t.Error("two lists share memory", a.E)
	}
}

// overAll writes over all lists within v, and behind their ends.
func overAll(v reflect.Value) {
	switch v.Kind() {
	case reflect.Struct:
		for i := range v.NumField() {
			overAll(v.Field(i))
		}
	case reflect.Slice:
		for i := range v.Len() {
			overAll(v.Index(i))
		}
		over(v)
	}
}

// What is done with an answer changes neither a later one nor what was handed in.
func TestAnswersMayBeWrittenInto(t *testing.T) {
	for seed := range uint64(600) {
		x := callByChance(seed)
		want, was := all(x.ask()), all(x)
		for range 2 {
			a := x.ask()
			if all(a) != want {
				t.Fatalf("%s behind a call whose answer was written into, not %s", short(a), short(want))
			}
			if overAll(reflect.ValueOf(&a).Elem()); all(x) != was {
				t.Fatalf("%s: what was handed in has become another", short(x))
			}
		}
	}
}

// Two catalogs that were made of one go their own ways; so do one and what was made of it, whichever is written into.
func TestTwoWaysFromOneCatalog(t *testing.T) {
	c := made("CREATE TABLE a (x INT)", "CREATE TABLE b (x INT)", "CREATE TABLE c (x INT)", "CREATE INDEX i ON a (x)", "CREATE INDEX j ON b (x)",
		"CREATE RULE r PRIORITY 1 ON INSERT TO c ALWAYS DO ROLLBACK")
	one := wantApplied(t, c, "CREATE TABLE d (x INT)", "CREATE INDEX k ON d (x)", "CREATE RULE q PRIORITY 0 ON INSERT TO d ALWAYS DO ROLLBACK")
	two := wantApplied(t, c, "CREATE TABLE e (x INT)", "CREATE INDEX l ON e (x)", "CREATE RULE p PRIORITY 0 ON INSERT TO e ALWAYS DO ROLLBACK", "DROP TABLE a")
	wantOrder(t, one, "a b c d | i j k | r q")
	wantOrder(t, two, "b c e | j l | r p")
	wantOrder(t, c, "a b c | i j | r")
	overAll(reflect.ValueOf(&one).Elem())
	wantOrder(t, two, "b c e | j l | r p")
	wantTold(t, wantApplied(t, c, "DROP TABLE b"), "CREATE TABLE a (x INT)", "CREATE TABLE c (x INT)", "CREATE INDEX i ON a (x)", "CREATE RULE r PRIORITY 1 ON INSERT TO c ALWAYS DO ROLLBACK")
}

// An empty list and no list are one.
func TestEmptyListsAreNone(t *testing.T) {
	empty := catalog.Catalog{Tables: []check.Table{}, Indexes: make([]catalog.Index, 0, 3), Rules: []ast.Stmt{}}
	wantOrder(t, wantApplied(t, empty, "CREATE TABLE t (a INT)", "CREATE INDEX i ON t (a)", "CREATE RULE r PRIORITY 0 ON INSERT TO t ALWAYS DO ROLLBACK"), "t | i | r")
	emptied := func(s ast.Stmt) ast.Stmt {
		for _, f := range leaves(reflect.ValueOf(&s).Elem(), nil) {
			if f.Kind() == reflect.Slice && f.Len() == 0 {
				f.Set(reflect.MakeSlice(f.Type(), 0, 2))
			}
		}
		return s
	}
	for seed := range uint64(800) {
		x := callByChance(seed)
		want := all(x.ask())
		x.s = emptied(x.s)
		for i := range x.c.Rules {
			x.c.Rules[i] = emptied(x.c.Rules[i])
		}
		if got := all(x.ask()); got != want {
			t.Fatalf("%s, not %s", short(got), short(want))
		}
	}
}

// A call hangs on nothing but its arguments, neither on earlier ones nor on ones at the same time.
func TestCallsOneBesideTheOther(t *testing.T) {
	var calls []call
	var want []string
	for seed := range uint64(100) {
		x := callByChance(seed)
		calls, want = append(calls, x), append(want, fmt.Sprint(x.ask()))
	}
	var done sync.WaitGroup
	for from := range 8 {
		done.Go(func() {
			for i := range calls {
				at := (i + from*17) % len(calls)
				if got := fmt.Sprint(calls[at].ask()); got != want[at] {
					t.Errorf("%s, not %s", short(got), short(want[at]))
				}
			}
		})
	}
	done.Wait()
}
