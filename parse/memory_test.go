package parse_test

import (
	"reflect"
	"slices"
	"strings"
	"sync"
	"testing"
	"unsafe"

	"tripwire/api"
	"tripwire/ast"
	"tripwire/parse"
)

// texts are what memory is asked of.
func texts() []string {
	l := []string{"SELECT 'a', x.a, b FROM t x, u y WHERE x.a = 'it''s'", "INSERT INTO t VALUES ('abc', abc, x.abc, (('abc')), - abc, NOT abc)"}
	for _, x := range samples() {
		l = append(l, x.text)
	}
	for seed := range uint64(300) {
		if text := ast.Show(byChance(seed)); len(text) <= 2000 {
			l = append(l, text)
		}
	}
	return l
}

// What is read shares nothing with the text: that may become another one behind the call.
func TestWhatIsReadIsNewMemory(t *testing.T) {
	for _, text := range texts() {
		b := []byte(text)
		got, x := parse.Parse(unsafe.String(&b[0], len(b)))
		if string(b) != text {
			t.Errorf("%q was written into", text)
		}
		clear(b)
		if want, y := toldStmt(text); x != y || !same(got, want) {
			t.Errorf("%q is %s when the text has become another", text, short(got))
		}
	}
	for _, text := range []string{"abc", "x.abc", "'abc'", "abc + 'abc'", "NOT - abc IS NULL"} {
		b := []byte(text)
		got, _ := parse.Expr(unsafe.String(&b[0], len(b)))
		clear(b)
		if want, _ := told(text); !same(got, want) {
			t.Errorf("%q is %s when the text has become another", text, short(got))
		}
	}
}

// span is where a list lies, with the room behind its end.
type span struct{ from, to uintptr }

// lists puts where each list within v lies behind others.
func lists(v reflect.Value, to []span) []span {
	switch v.Kind() {
	case reflect.Struct:
		for i := range v.NumField() {
			to = lists(v.Field(i), to)
		}
	case reflect.Slice:
		if v.Cap() > 0 {
			to = append(to, span{v.Pointer(), v.Pointer() + uintptr(v.Cap())*v.Type().Elem().Size()})
		}
		for i := range v.Len() {
			to = lists(v.Index(i), to)
		}
	}
	return to
}

// No two lists of one answer, or of two, share memory.
func TestNoTwoListsShareMemory(t *testing.T) {
	for _, text := range texts() {
		one, _ := parse.Parse(text)
		two, _ := parse.Parse(text)
		l := lists(reflect.ValueOf(two), lists(reflect.ValueOf(one), nil))
		slices.SortFunc(l, func(a, b span) int { return int(a.from) - int(b.from) })
		for i := range l {
			if i > 0 && l[i-1].to > l[i].from {
				t.Errorf("%q: two lists share memory", text)
			}
		}
	}
}

// overwrite puts other things into all lists within v, and behind their ends.
func overwrite(v reflect.Value) {
	switch v.Kind() {
	case reflect.Struct:
		for i := range v.NumField() {
			overwrite(v.Field(i))
		}
	case reflect.Slice:
		for i := range v.Len() {
			overwrite(v.Index(i))
		}
		for i := range v.Cap() {
			v.Slice(0, v.Cap()).Index(i).SetZero()
		}
	}
}

// What is done with an answer changes no later one.
func TestAnswersMayBeWrittenInto(t *testing.T) {
	for _, text := range texts() {
		want, x := toldStmt(text)
		for range 3 {
			got, y := parse.Parse(text)
			if x != y || !same(got, want) {
				t.Errorf("%q is read as %s behind a call whose answer was written into", text, short(got))
			}
			overwrite(reflect.ValueOf(&got).Elem())
		}
	}
}

// What is missing is no list, or an empty one.
func TestNothingIsReadWhereNothingStands(t *testing.T) {
	for _, x := range samples() {
		s, _ := parse.Parse(x.text)
		v := reflect.ValueOf(s)
		for i := range v.NumField() {
			if was := reflect.ValueOf(x.s).Field(i); was.IsZero() && !(v.Field(i).IsZero() || v.Field(i).Kind() == reflect.Slice && v.Field(i).Len() == 0) {
				t.Errorf("%q has a %s", x.text, v.Type().Field(i).Name)
			}
		}
	}
}

// A call hangs on nothing but its text, neither on earlier ones nor on ones at the same time.
func TestCallsOneBesideTheOther(t *testing.T) {
	l := texts()
	l = append(l, "BEGIN BEGIN", "SELECT", strings.Repeat(" ", 2001), "DELETE FROM t WHERE "+strings.Repeat("- ", 40)+"1", "#")
	var all sync.WaitGroup
	for from := range 8 {
		all.Go(func() {
			for i := range l {
				text := l[(i+from*17)%len(l)]
				got, x := parse.Parse(text)
				if want, y := toldStmt(text); x != y || !same(got, want) {
					t.Errorf("%q is read as %s, %v", short(text), short(got), x)
				}
			}
		})
	}
	all.Wait()
}

// Whatever bytes a text has, each call ends with a statement or with one of two faults, at a place within it.
func TestWhateverIsHandedIn(t *testing.T) {
	texts := []string{"\x00", "\xff\xfe", "é", "SELECT é FROM t", strings.Repeat("\x00", 2000), strings.Repeat("'", 1999), strings.Repeat("''", 1000), strings.Repeat("a.", 1000), strings.Repeat("(-", 1000), strings.Repeat("1+", 1000)}
	for c := range 256 {
		b := string([]byte{byte(c)})
		texts = append(texts, b, "BEGIN"+b, b+"BEGIN", "SELECT "+b+" FROM t", "DELETE FROM t WHERE a"+b+"b", "a"+b+"b", "'"+b+"'")
	}
	for _, text := range texts {
		wantAsTold(t, text)
		for _, x := range []api.Fault{asStmt(text), asExpr(text)} {
			if x != (api.Fault{}) && x != long() && !(x.Code == api.ErrSyntax && 0 <= x.At && x.At <= len(text)) {
				t.Errorf("%q: %v", short(text), x)
			}
		}
	}
}
