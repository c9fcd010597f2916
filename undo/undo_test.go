package undo_test

import (
	"fmt"
	"math"
	"slices"
	"strings"
	"testing"

	"tripwire/api"
	"tripwire/undo"
)

// values are numbers as values.
func values(l ...int) []api.Value {
	var all []api.Value
	for _, n := range l {
		all = append(all, api.Value{Kind: api.Int, N: n})
	}
	return all
}

// numbered is an entry that differs in all its parts from those of other numbers; some have no Old, some no New, some neither.
func numbered(n int) undo.Entry {
	e := undo.Entry{Kind: n*3 + 1, ID: n, Table: "t" + fmt.Sprint(n)}
	if n%3 != 1 {
		e.Old = values(n, n+1)[:1+n%2]
	}
	if n%4 != 1 {
		e.New = []api.Value{{Kind: api.Text, S: fmt.Sprint("v", n)}, {Kind: api.Bool, N: n % 2}, {}}[:1+n%3]
	}
	return e
}

// entries are those of the numbers.
func entries(l ...int) []undo.Entry {
	var all []undo.Entry
	for _, n := range l {
		all = append(all, numbered(n))
	}
	return all
}

// falling are the entries of the numbers from a down to b.
func falling(a, b int) []undo.Entry {
	var all []undo.Entry
	for n := a; n >= b; n-- {
		all = append(all, numbered(n))
	}
	return all
}

// alike tells whether two entries are the same, and have no list where it is empty.
func alike(a, b undo.Entry) bool {
	return a.Kind == b.Kind && a.ID == b.ID && a.Table == b.Table && slices.Equal(a.Old, b.Old) && slices.Equal(a.New, b.New) &&
		(a.Old == nil) == (len(a.Old) == 0) && (a.New == nil) == (len(a.New) == 0)
}

// same tells whether two answers are the same; one that is empty is nil.
func same(got, want []undo.Entry) bool {
	return slices.EqualFunc(got, want, alike) && (got == nil) == (len(got) == 0)
}

// told is a short text of entries.
func told(l []undo.Entry) string {
	var b strings.Builder
	for i, e := range l {
		if i == 8 {
			return b.String() + " .."
		}
		fmt.Fprintf(&b, " %d/%d/%s%v%v", e.Kind, e.ID, e.Table, e.Old, e.New)
	}
	return fmt.Sprintf("%d:%s", len(l), b.String())
}

func want(t *testing.T, what string, got, want []undo.Entry) {
	t.Helper()
	if !same(got, want) {
		t.Errorf("%s: %s, not %s", what, told(got), told(want))
	}
}

// has tells what a log has beside its entries' contents.
func has(t *testing.T, what string, l *undo.Log, n int, saves ...string) {
	t.Helper()
	if l.Len() != n {
		t.Errorf("%s: Len %d, not %d", what, l.Len(), n)
	}
	got := l.Saves()
	if !slices.Equal(got, saves) || (got == nil) != (len(got) == 0) {
		t.Errorf("%s: Saves %q, not %q", what, got, saves)
	}
}

// made is a new log.
func made(t *testing.T, quota int) *undo.Log {
	t.Helper()
	l, e := undo.New(quota)
	if l == nil || e != api.OK {
		t.Fatalf("New(%d): %v, %d", quota, l, e)
	}
	return l
}

// add adds the entries of the numbers.
func add(t *testing.T, l *undo.Log, numbers ...int) {
	t.Helper()
	for _, n := range numbers {
		if e := l.Add(numbered(n)); e != api.OK {
			t.Fatalf("Add %d: %d", n, e)
		}
	}
}

func TestTheChaptersExample(t *testing.T) {
	l := made(t, 10)
	add(t, l, 1)
	l.Save("a")
	add(t, l, 2, 3)
	got, e := l.Back("a")
	want(t, "Back", got, entries(3, 2))
	if e != api.OK {
		t.Error(e)
	}
	has(t, "Back", l, 1, "a")
	got, e = l.Back("a")
	want(t, "Back again", got, nil)
	if e != api.OK {
		t.Error(e)
	}
	has(t, "Back again", l, 1, "a")
}

func TestNew(t *testing.T) {
	for _, quota := range []int{math.MinInt, -api.MaxLog, -2, -1, api.MaxLog + 1, api.MaxLog + 2, 1 << 32, 1<<40 + 3, math.MaxInt} {
		if l, e := undo.New(quota); l != nil || e != api.ErrArg {
			t.Errorf("New(%d): %v, %d", quota, l != nil, e)
		}
	}
	for _, quota := range []int{0, 1, 2, 3, 50, 777, api.MaxLog - 1, api.MaxLog} {
		l := made(t, quota)
		has(t, "a new log", l, 0)
		want(t, "To of a new log", l.To(0), nil)
		if got, e := l.Back(""); got != nil || e != api.ErrMark {
			t.Errorf("Back of a new log: %s, %d", told(got), e)
		}
	}
}

func TestAddUpToTheQuota(t *testing.T) {
	for _, quota := range []int{0, 1, 2, 7, 64, 1000} {
		l := made(t, quota)
		for n := range quota {
			if e := l.Add(numbered(n)); e != api.OK {
				t.Fatalf("Add %d of %d: %d", n, quota, e)
			}
			has(t, "Add", l, n+1)
		}
		l.Save("full")
		for n := range 3 {
			if e := l.Add(numbered(quota + n)); e != api.ErrLog {
				t.Errorf("Add beyond %d: %d", quota, e)
			}
			has(t, "Add beyond the quota", l, quota, "full")
		}
		want(t, "To behind a refused Add", l.To(0), falling(quota-1, 0))
	}
}

func TestAddUpToTheGreatestQuota(t *testing.T) {
	for _, quota := range []int{api.MaxLog - 1, api.MaxLog} {
		l := made(t, quota)
		for n := range quota {
			if e := l.Add(undo.Entry{ID: n}); e != api.OK {
				t.Fatalf("Add %d of %d: %d", n, quota, e)
			}
		}
		if e := l.Add(undo.Entry{ID: quota}); e != api.ErrLog || l.Len() != quota {
			t.Errorf("Add beyond %d: %d, Len %d", quota, e, l.Len())
		}
		got := l.To(0)
		if len(got) != quota || l.Len() != 0 {
			t.Fatalf("To(0): %d entries, and Len %d", len(got), l.Len())
		}
		for i, e := range got {
			if e.ID != quota-1-i {
				t.Fatalf("the entry at %d is %d", i, e.ID)
			}
		}
	}
}

func TestAddAgainWhereThereIsRoom(t *testing.T) {
	l := made(t, 3)
	add(t, l, 1)
	l.Save("a")
	add(t, l, 2, 3)
	for round := range 3 {
		if e := l.Add(numbered(9)); e != api.ErrLog {
			t.Errorf("Add to a full log: %d", e)
		}
		got, _ := l.Back("a")
		want(t, "Back", got, entries(3+2*round, 2+2*round))
		add(t, l, 4+2*round, 5+2*round)
	}
	want(t, "To", l.To(2), entries(9))
	add(t, l, 10)
	if e := l.Add(numbered(11)); e != api.ErrLog {
		t.Errorf("Add to a full log: %d", e)
	}
	want(t, "To", l.To(0), entries(10, 8, 1))
	add(t, l, 12, 13, 14)
	if e := l.Add(numbered(15)); e != api.ErrLog {
		t.Errorf("Add to a full log: %d", e)
	}
	want(t, "To", l.To(-1), entries(14, 13, 12))
}

// Nothing is asked of an entry: whatever it has comes back.
func TestEntriesOfAllKinds(t *testing.T) {
	strange := []undo.Entry{
		{}, {Kind: -1, ID: -1}, {Kind: math.MinInt, ID: math.MaxInt, Table: "\x00\xff"}, {Table: strings.Repeat("long", 100)},
		{Old: []api.Value{{Kind: -9, N: 5, S: "x"}}}, {New: []api.Value{{}, {Kind: 77, N: math.MinInt, S: strings.Repeat("y", 99)}}},
		{Kind: 1, ID: 1, Table: "t", Old: values(1, 2, 3, 4, 5, 6, 7, 8, 9), New: values(0)}, {},
	}
	l := made(t, len(strange))
	for _, e := range strange {
		if c := l.Add(e); c != api.OK {
			t.Error("Add:", c)
		}
	}
	back := slices.Clone(strange)
	slices.Reverse(back)
	want(t, "To", l.To(0), back)
}

func TestEmptyListsAreNone(t *testing.T) {
	l := made(t, 5)
	l.Add(undo.Entry{ID: 1, Old: []api.Value{}, New: make([]api.Value, 0, 4)})
	l.Save("")
	l.Add(undo.Entry{ID: 2, Old: make([]api.Value, 0, 4), New: []api.Value{}})
	got, _ := l.Back("")
	want(t, "Back", got, []undo.Entry{{ID: 2}})
	want(t, "To", l.To(0), []undo.Entry{{ID: 1}})
}

func TestANilLog(t *testing.T) {
	var l *undo.Log
	for range 2 {
		if e := l.Add(numbered(2)); e != api.ErrArg {
			t.Error("Add:", e)
		}
		if l.Len() != 0 {
			t.Error("Len:", l.Len())
		}
		for _, n := range []int{math.MinInt, -1, 0, 1, math.MaxInt} {
			if got := l.To(n); got != nil {
				t.Errorf("To(%d): %s", n, told(got))
			}
		}
		l.Save("a")
		for _, name := range []string{"a", ""} {
			if got, e := l.Back(name); got != nil || e != api.ErrArg {
				t.Errorf("Back(%q): %s, %d", name, told(got), e)
			}
		}
		if got := l.Saves(); got != nil {
			t.Errorf("Saves: %q", got)
		}
	}
}

// A log that nobody made by New has a quota of 0.
func TestALogWithoutNew(t *testing.T) {
	var l undo.Log
	if e := l.Add(numbered(1)); e != api.ErrLog {
		t.Error("Add:", e)
	}
	l.Save("a")
	has(t, "Save", &l, 0, "a")
	if got, e := l.Back("a"); got != nil || e != api.OK {
		t.Errorf("Back: %s, %d", told(got), e)
	}
	want(t, "To", l.To(-3), nil)
	has(t, "To", &l, 0, "a")
}

func TestTwoLogsAreApart(t *testing.T) {
	one, two := made(t, 2), made(t, 3)
	add(t, one, 1)
	one.Save("one")
	add(t, two, 2)
	two.Save("two")
	add(t, one, 3)
	add(t, two, 4, 5)
	if e := one.Add(numbered(6)); e != api.ErrLog {
		t.Error("Add:", e)
	}
	if got, e := one.Back("two"); got != nil || e != api.ErrMark {
		t.Errorf("Back: %s, %d", told(got), e)
	}
	want(t, "To", two.To(0), entries(5, 4, 2))
	has(t, "the first", one, 2, "one")
	want(t, "To", one.To(0), entries(3, 1))
}
