package undo_test

import (
	"slices"
	"testing"

	"tripwire/api"
	"tripwire/undo"
)

// room is what stands behind a list's end, where a careless append would write.
var room = api.Value{Kind: -7, N: -7, S: "room"}

// roomy is the same entry, with room behind its lists, and tells whether they are as they were, the room too.
func roomy(e undo.Entry) (undo.Entry, func() bool) {
	old, fresh := append(slices.Clone(e.Old), room, room), append(slices.Clone(e.New), room, room)
	wasOld, wasFresh := slices.Clone(old), slices.Clone(fresh)
	e.Old, e.New = old[:len(old)-2], fresh[:len(fresh)-2]
	return e, func() bool { return slices.Equal(old, wasOld) && slices.Equal(fresh, wasFresh) }
}

// spoilValues writes over a list and the room behind it.
func spoilValues(l []api.Value) {
	l = l[:cap(l)]
	for i := range l {
		l[i] = api.Value{Kind: -99, N: -99, S: "spoilt"}
	}
}

// spoil writes over entries, their lists and the room behind them all.
func spoil(l []undo.Entry) {
	l = l[:cap(l)]
	for i := range l {
		spoilValues(l[i].Old)
		spoilValues(l[i].New)
		l[i] = undo.Entry{Kind: -99, ID: -99, Table: "spoilt", Old: values(-99), New: values(-98)}
	}
}

// deep has lists of its own all the way down.
func deep(l []undo.Entry) []undo.Entry {
	var all []undo.Entry
	for _, e := range l {
		e.Old, e.New = append([]api.Value(nil), e.Old...), append([]api.Value(nil), e.New...)
		all = append(all, e)
	}
	return all
}

func TestNoArgumentIsWrittenInto(t *testing.T) {
	l := made(t, 20)
	var left []func() bool
	for n := range 22 { // the last two are refused
		e, is := roomy(numbered(n))
		left = append(left, is)
		l.Add(e)
		l.Save("a")
	}
	spoil(l.To(15))
	taken, _ := l.Back("a")
	spoil(taken)
	for n := range 7 {
		l.Add(numbered(n + 40))
	}
	spoil(l.To(3))
	l.Save("b")
	spoil(l.To(0))
	for n, is := range left {
		if !is() {
			t.Errorf("what was handed to Add as entry %d was written into", n)
		}
	}
}

func TestWhatWasHandedToAddMayBeWrittenOver(t *testing.T) {
	l := made(t, 30)
	for n := range 30 {
		e, _ := roomy(numbered(n))
		l.Add(e)
		if n == 12 {
			l.Save("a")
		}
		spoilValues(e.Old)
		spoilValues(e.New)
	}
	want(t, "To", l.To(20), falling(29, 20))
	got, _ := l.Back("a")
	want(t, "Back", got, falling(19, 13))
	want(t, "To", l.To(0), falling(12, 0))
}

// One list that is handed in twice, or as Old and New, comes back as lists of their own.
func TestNoTwoListsOfAnAnswerShare(t *testing.T) {
	one := values(1, 2, 3, 4)
	l := []undo.Entry{
		{ID: 1, Old: one, New: one}, {ID: 2, Old: one[:2], New: one[2:]}, {ID: 3, Old: one[1:], New: one[:3]}, {ID: 4, New: one}, {ID: 5, Old: one[:1], New: one[1:2]},
	}
	answers := []func(*undo.Log) []undo.Entry{
		func(u *undo.Log) []undo.Entry { return u.To(0) },
		func(u *undo.Log) []undo.Entry { got, _ := u.Back("a"); return got },
	}
	was := deep(l)
	slices.Reverse(was)
	for _, answer := range answers {
		for i := range was {
			for _, old := range []bool{true, false} {
				u := made(t, 5)
				u.Save("a")
				for _, e := range l {
					u.Add(e)
				}
				got, left := answer(u), deep(was)
				if old {
					_ = append(got[i].Old, room)
					spoilValues(got[i].Old)
					got[i].Old, left[i].Old = nil, nil
				} else {
					_ = append(got[i].New, room)
					spoilValues(got[i].New)
					got[i].New, left[i].New = nil, nil
				}
				want(t, "with one list spoilt", got, left)
			}
		}
	}
	if !slices.Equal(one, values(1, 2, 3, 4)) {
		t.Error("what was handed in was written over:", one)
	}
}

func TestAnswersMayBeWrittenOver(t *testing.T) {
	l := made(t, 40)
	for n := range 40 {
		if n == 10 || n == 20 {
			l.Save("a")
		}
		l.Add(numbered(n))
	}
	spoil(l.To(30))
	taken, _ := l.Back("a")
	spoil(taken)
	has(t, "Back", l, 20, "a", "a")
	for n := range 5 {
		l.Add(numbered(20 + n))
	}
	_ = append(taken, numbered(99))
	spoil(taken)
	taken = l.To(17)
	want(t, "To", taken, falling(24, 17))
	_ = append(taken, numbered(98), numbered(97))
	spoil(taken)
	want(t, "To", l.To(0), falling(16, 0))
}

func TestSavesMayBeWrittenOver(t *testing.T) {
	l := made(t, 5)
	for _, s := range []string{"a", "b", "c"} {
		l.Save(s)
		names := l.Saves()
		_ = append(names, "room")
		for i := range names {
			names[i] = "spoilt"
		}
	}
	has(t, "Saves", l, 0, "a", "b", "c")
	noBack(t, l, "spoilt", "room")
	names := l.Saves()
	back(t, l, "b")
	l.Save("d")
	l.Save("e")
	if !slices.Equal(names, []string{"a", "b", "c"}) {
		t.Errorf("Saves, behind Back and Save: %q", names)
	}
	has(t, "Saves", l, 0, "a", "b", "d", "e")
}

// An answer stays whatever the log is told behind it.
func TestAnAnswerStays(t *testing.T) {
	for n := -1; n < 12; n++ {
		for _, saved := range []bool{false, true} {
			l := made(t, 12)
			for i := range 12 {
				if i == max(n, 0) {
					l.Save("a")
				}
				l.Add(numbered(i))
			}
			var got []undo.Entry
			if saved {
				got, _ = l.Back("a")
			} else {
				got = l.To(n)
			}
			for i := range 12 {
				l.Add(numbered(i + 50))
			}
			spoil(l.To(1))
			for i := range 11 {
				l.Add(numbered(i + 70))
			}
			l.To(0)
			want(t, "the answer, behind other calls", got, falling(11, max(n, 0)))
		}
	}
}
