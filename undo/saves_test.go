package undo_test

import (
	"fmt"
	"testing"

	"tripwire/api"
	"tripwire/undo"
)

// back goes back to a savepoint that is there.
func back(t *testing.T, l *undo.Log, name string, taken ...int) {
	t.Helper()
	got, e := l.Back(name)
	if e != api.OK {
		t.Errorf("Back(%q): %d", name, e)
	}
	want(t, fmt.Sprintf("Back(%q)", name), got, entries(taken...))
}

// noBack asks for a savepoint that isn't there.
func noBack(t *testing.T, l *undo.Log, names ...string) {
	t.Helper()
	for _, name := range names {
		if got, e := l.Back(name); got != nil || e != api.ErrMark {
			t.Errorf("Back(%q): %s, %d", name, told(got), e)
		}
	}
}

func TestBackWithoutSavepoint(t *testing.T) {
	l := made(t, 3)
	noBack(t, l, "a", "", "A")
	has(t, "Back", l, 0)
	add(t, l, 1, 2)
	noBack(t, l, "a", "", "A")
	has(t, "Back", l, 2)
	want(t, "To", l.To(0), entries(2, 1))
}

func TestBackToAnotherNameDoesNothing(t *testing.T) {
	l := made(t, 3)
	add(t, l, 1)
	l.Save("ab")
	add(t, l, 2)
	l.Save("b")
	add(t, l, 3)
	noBack(t, l, "", "a", "AB", "abc", "ab ", " b", "b\x00", "B")
	has(t, "Back", l, 3, "ab", "b")
	back(t, l, "b", 3)
	back(t, l, "ab", 2)
	noBack(t, l, "b")
	has(t, "Back", l, 1, "ab")
	want(t, "To", l.To(0), entries(1))
	has(t, "To", l, 0)
	noBack(t, l, "ab", "b")
}

func TestBackTwice(t *testing.T) {
	l := made(t, 9)
	l.Save("a")
	add(t, l, 1, 2)
	back(t, l, "a", 2, 1)
	back(t, l, "a")
	has(t, "Back", l, 0, "a")
	add(t, l, 3)
	back(t, l, "a", 3)
	has(t, "Back", l, 0, "a")
	back(t, l, "a")
}

func TestBackToEachOfMany(t *testing.T) {
	names := []string{"a", "b", "c", "d", "e"}
	for k, name := range names {
		l := made(t, 5)
		for n, s := range names {
			l.Save(s)
			add(t, l, n)
		}
		got, e := l.Back(name)
		if e != api.OK {
			t.Error("Back:", e)
		}
		want(t, "Back", got, falling(4, k))
		has(t, "Back", l, k, names[:k+1]...)
		noBack(t, l, names[k+1:]...)
		has(t, "no Back", l, k, names[:k+1]...)
	}
}

// Of several with one name the newest counts, and stays, however often it is gone back to.
func TestTheSameNameSeveralTimes(t *testing.T) {
	l := made(t, 9)
	l.Save("a")
	add(t, l, 1)
	l.Save("b")
	l.Save("a")
	add(t, l, 2)
	l.Save("a")
	l.Save("c")
	add(t, l, 3)
	has(t, "Save", l, 3, "a", "b", "a", "a", "c")
	back(t, l, "a", 3)
	has(t, "Back", l, 2, "a", "b", "a", "a")
	back(t, l, "a")
	has(t, "Back again", l, 2, "a", "b", "a", "a")
	want(t, "To", l.To(1), entries(2))
	has(t, "To", l, 1, "a", "b", "a")
	add(t, l, 4)
	back(t, l, "a", 4)
	back(t, l, "b")
	has(t, "Back", l, 1, "a", "b")
	back(t, l, "a", 1)
	has(t, "Back", l, 0, "a")
	back(t, l, "a")
}

// Savepoints at one number of entries: those behind the one that is gone back to are gone, though To alone would let them stay.
func TestSeveralAtOneNumber(t *testing.T) {
	names := []string{"a", "b", "c", "d"}
	for k, name := range names {
		for more := range 3 {
			l := made(t, 5)
			add(t, l, 1, 2)
			for _, s := range names {
				l.Save(s)
			}
			for n := range more {
				add(t, l, 3+n)
			}
			want(t, "To", l.To(2), falling(2+more, 3))
			has(t, "To", l, 2, names...)
			for n := range more {
				add(t, l, 3+n)
			}
			got, e := l.Back(name)
			if e != api.OK {
				t.Error("Back:", e)
			}
			want(t, "Back", got, falling(2+more, 3))
			has(t, "Back", l, 2, names[:k+1]...)
			want(t, "To", l.To(0), entries(2, 1))
		}
	}
}

func TestOneNameSeveralTimesAtOneNumber(t *testing.T) {
	l := made(t, 3)
	for _, s := range []string{"a", "b", "a", "c", "a", "b"} {
		l.Save(s)
	}
	add(t, l, 1)
	back(t, l, "a", 1)
	has(t, "Back", l, 0, "a", "b", "a", "c", "a")
	back(t, l, "c")
	has(t, "Back", l, 0, "a", "b", "a", "c")
	back(t, l, "a")
	has(t, "Back", l, 0, "a", "b", "a")
	back(t, l, "b")
	has(t, "Back", l, 0, "a", "b")
	back(t, l, "a")
	has(t, "Back", l, 0, "a")
}

func TestNamesOfAllKinds(t *testing.T) {
	names := []string{"", "a", "A", " ", "\x00", "\xff", "a\x00", "ä", fmt.Sprintf("%01000d", 1), ""}
	l := made(t, 20)
	for n, s := range names {
		add(t, l, n)
		l.Save(s)
	}
	has(t, "Save", l, 10, names...)
	back(t, l, "")
	for k := 8; k >= 1; k-- {
		back(t, l, names[k], k+1)
		has(t, "Back", l, k+1, names[:k+1]...)
	}
	back(t, l, "", 1)
	has(t, "Back", l, 1, "")
}

// A quota of 0 holds no entry; savepoints have no quota.
func TestSavepointsWithoutEntries(t *testing.T) {
	l := made(t, 0)
	var names []string
	for n := range 300 {
		l.Save(fmt.Sprint(n))
		names = append(names, fmt.Sprint(n))
	}
	has(t, "Save", l, 0, names...)
	want(t, "To", l.To(0), nil)
	has(t, "To", l, 0, names...)
	back(t, l, "150")
	has(t, "Back", l, 0, names[:151]...)
	noBack(t, l, "151", "299")
	back(t, l, "0")
	has(t, "Back", l, 0, "0")
}

// Savepoints without entries stay, however often entries are added and taken behind them. (Were all of them gone through at each To, this would be slow.)
func TestManySavepointsAndManyCalls(t *testing.T) {
	const many = 100000
	l := made(t, 2)
	for range many {
		l.Save("a")
	}
	for n := range many {
		l.Add(undo.Entry{ID: n})
		if got := l.To(0); len(got) != 1 || got[0].ID != n {
			t.Fatalf("To at %d: %s", n, told(got))
		}
	}
	if got := l.Saves(); len(got) != many {
		t.Errorf("Saves: %d", len(got))
	}
}
