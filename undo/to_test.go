package undo_test

import (
	"fmt"
	"math"
	"testing"
)

func TestTo(t *testing.T) {
	for _, row := range []struct{ n, taken int }{
		{math.MinInt, 6}, {-7, 6}, {-6, 6}, {-1, 6}, {0, 6}, {1, 5}, {2, 4}, {3, 3}, {5, 1}, {6, 0}, {7, 0}, {8, 0}, {1 << 32, 0}, {math.MaxInt, 0},
	} {
		l := made(t, 8)
		add(t, l, 1, 2, 3, 4, 5, 6)
		what := fmt.Sprintf("To(%d)", row.n)
		want(t, what, l.To(row.n), falling(6, 7-row.taken))
		has(t, what, l, 6-row.taken)
		want(t, what+" again", l.To(row.n), nil)
		has(t, what+" again", l, 6-row.taken)
		add(t, l, 7)
		want(t, "To(0) behind "+what, l.To(0), append(entries(7), falling(6-row.taken, 1)...))
	}
}

func TestToTakesTheSavepointsOfMore(t *testing.T) {
	for _, row := range []struct{ n, taken, left int }{
		{math.MinInt, 4, 2}, {-1, 4, 2}, {0, 4, 2}, {1, 3, 4}, {2, 2, 6}, {3, 1, 8}, {4, 0, 10}, {5, 0, 10}, {6, 0, 10}, {math.MaxInt, 0, 10},
	} {
		l := made(t, 5)
		var names []string
		for at := range 5 {
			if at > 0 {
				add(t, l, at)
			}
			for _, s := range []string{"a", "b"} {
				names = append(names, fmt.Sprint(at, s))
				l.Save(names[len(names)-1])
			}
		}
		what := fmt.Sprintf("To(%d)", row.n)
		want(t, what, l.To(row.n), falling(4, 5-row.taken))
		has(t, what, l, 4-row.taken, names[:row.left]...)
		l.Save("new")
		has(t, "Save behind "+what, l, 4-row.taken, append(names[:row.left:row.left], "new")...)
	}
}

// What is above Len isn't Len: neither entries nor savepoints are touched, nor is what comes behind.
func TestToAboveLenDoesNothing(t *testing.T) {
	l := made(t, 4)
	l.Save("a")
	want(t, "To(1) of none", l.To(1), nil)
	has(t, "To(1) of none", l, 0, "a")
	add(t, l, 1, 2)
	l.Save("b")
	want(t, "To(3) of two", l.To(3), nil)
	has(t, "To(3) of two", l, 2, "a", "b")
	add(t, l, 3)
	l.Save("c")
	want(t, "To(4) of three", l.To(4), nil)
	has(t, "To(4) of three", l, 3, "a", "b", "c")
	want(t, "To(2)", l.To(2), entries(3))
	has(t, "To(2)", l, 2, "a", "b")
	want(t, "To(0)", l.To(0), entries(2, 1))
	has(t, "To(0)", l, 0, "a")
}

// One entry a call comes to the same as all at once.
func TestToStepByStep(t *testing.T) {
	l := made(t, 50)
	for n := range 50 {
		add(t, l, n)
	}
	for n := 49; n >= 0; n-- {
		want(t, "To", l.To(n), entries(n))
		has(t, "To", l, n)
	}
}

// A savepoint counts the entries that there were, not those that were ever added.
func TestToBehindToAndSave(t *testing.T) {
	l := made(t, 9)
	add(t, l, 1, 2, 3, 4)
	l.Save("four")
	want(t, "To(1)", l.To(1), falling(4, 2))
	has(t, "To(1)", l, 1)
	l.Save("one")
	add(t, l, 5)
	l.Save("two")
	want(t, "To(1)", l.To(1), entries(5))
	has(t, "To(1)", l, 1, "one")
	add(t, l, 6, 7, 8)
	want(t, "To(3)", l.To(3), entries(8))
	has(t, "To(3)", l, 3, "one")
	got, _ := l.Back("one")
	want(t, "Back", got, entries(7, 6))
	want(t, "To(0)", l.To(0), entries(1))
	has(t, "To(0)", l, 0)
}
