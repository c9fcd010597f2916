package delta_test

import (
	"slices"
	"testing"

	"tripwire/api"
	"tripwire/delta"
)

// deep has lists of its own all the way down.
func deep(l []delta.Change) []delta.Change {
	var all []delta.Change
	for _, c := range l {
		c.Old, c.New = slices.Clone(c.Old), slices.Clone(c.New)
		all = append(all, c)
	}
	return all
}

// room is what stands behind a list's end, where a careless append would write.
var room = api.Value{Kind: -7, N: -7, S: "room"}

// roomy has the same changes, with room behind each list, and tells whether all is as it was, the room too.
func roomy(l []delta.Change) ([]delta.Change, func() bool) {
	wide := append(deep(l), delta.Change{Table: "room"}, delta.Change{Table: "room"})
	for i := range wide {
		wide[i].Old = append(wide[i].Old, room, room)
		wide[i].New = append(wide[i].New, room, room)
	}
	was := deep(wide)
	given := wide[:len(l)]
	short := slices.Clone(given)
	for i, c := range given {
		short[i].Old, short[i].New = c.Old[:len(c.Old)-2], c.New[:len(c.New)-2]
	}
	lists := slices.Clone(wide) // the same memory, told at its whole length
	copy(wide, short)
	return given, func() bool {
		return same(lists, was) && same(given, l) && wide[len(l)].Table == "room" && wide[len(l)+1].Table == "room"
	}
}

// spoil writes over changes, their lists and the room behind them all.
func spoil(l []delta.Change) {
	l = l[:cap(l)]
	for i := range l {
		spoilLists(l[i])
		l[i] = delta.Change{Table: "spoilt", ID: -99, Old: values(-99), New: values(-98)}
	}
}

func spoilLists(c delta.Change) {
	for _, v := range [][]api.Value{c.Old[:cap(c.Old)], c.New[:cap(c.New)]} {
		for i := range v {
			v[i] = api.Value{Kind: -99, N: -99, S: "spoilt"}
		}
	}
}

// plenty are changes of several rows, of lists of several lengths.
func plenty() []delta.Change {
	return []delta.Change{
		{Table: "t", ID: 2, New: values(1, 2)}, {Table: "t", ID: 1, Old: values(5, 6), New: values(6, 7, 8)}, {Table: "t", ID: 2, Old: values(1, 2), New: []api.Value{number(2), text("b")}},
		{Table: "s", ID: 9, Old: values(7)}, {Table: "t", ID: 3, New: values(1)}, {Table: "t", ID: 3, Old: values(1)}, {Table: "t", ID: 4, Old: values(1), New: values(2)},
		{Table: "t", ID: 4, Old: values(2), New: values(1)}, {Table: "s", ID: 1}, {Table: "s", ID: 2, Old: values(3), New: values(3)}, {Table: "t", ID: 7, New: values(4, 4)},
	}
}

func TestNoArgumentIsWrittenInto(t *testing.T) {
	for n := range len(plenty()) + 1 {
		l, kept := roomy(plenty()[:n])
		k := delta.New()
		for _, c := range l {
			delta.Kind(c)
			k.Note(c)
		}
		spoil(delta.Net(l))
		for kind := -1; kind <= 4; kind++ {
			spoil(delta.Of(l, "t", kind))
			spoil(delta.Of(l, "s", kind))
		}
		spoil(k.Since(0))
		k.Back(0)
		for range n {
			k.Note(inserted("u", 1, 1))
		}
		if !kept() {
			t.Errorf("%s was written into", told(plenty()[:n]))
		}
	}
}

func TestNetSharesNothingWithItsArgument(t *testing.T) {
	l, _ := roomy(plenty())
	got, was := delta.Net(l), delta.Net(plenty())
	spoil(l)
	want(t, "Net, when its argument was written over", got, was)
}

func TestOfSharesNothingWithItsArgument(t *testing.T) {
	for _, table := range []string{"s", "t"} {
		for kind := range 4 {
			l, _ := roomy(plenty())
			got, was := delta.Of(l, table, kind), delta.Of(plenty(), table, kind)
			spoil(l)
			want(t, "Of, when its argument was written over", got, was)
		}
	}
}

func TestNoteSharesNothing(t *testing.T) {
	k := delta.New()
	l, _ := roomy(plenty())
	for _, c := range l {
		k.Note(c)
		spoilLists(c)
		c.Table, c.ID = "spoilt", -99
	}
	is(t, k, plenty())
	spoil(l)
	is(t, k, plenty())
}

func TestSinceSharesNothingWithTheTracker(t *testing.T) {
	k := delta.New()
	for _, c := range plenty() {
		k.Note(c)
	}
	for _, m := range marks(len(plenty())) {
		spoil(k.Since(m))
	}
	is(t, k, plenty())
}

func TestAnAnswerStaysWhateverTheTrackerIsTold(t *testing.T) {
	for _, m := range marks(len(plenty())) {
		k := delta.New()
		for _, c := range plenty() {
			k.Note(c)
		}
		got := k.Since(m)
		was := deep(got)
		k.Back(0)
		for _, c := range plenty() {
			k.Note(updated("u", c.ID, 1, 2))
		}
		want(t, "Since, behind Back and Note", got, was)
		k.Back(2)
		want(t, "Since, behind Back", got, was)
	}
}

// apart tells whether each list of an answer is its own: writing over one, with its room, leaves all others.
func apart(t *testing.T, what string, answer func() []delta.Change) {
	t.Helper()
	was := deep(answer())
	for i := range was {
		for _, old := range []bool{true, false} {
			got, left := answer(), deep(was)
			spoilt := delta.Change{Old: got[i].Old}
			if !old {
				spoilt = delta.Change{New: got[i].New}
			}
			spoilLists(spoilt)
			_, _ = append(got[i].Old, room), append(got[i].New, room)
			if old {
				got[i].Old, left[i].Old = nil, nil
			} else {
				got[i].New, left[i].New = nil, nil
			}
			want(t, what, got, left)
		}
	}
}

func TestNoTwoListsOfAnAnswerShare(t *testing.T) {
	one := values(1, 2, 3, 4)
	l := []delta.Change{
		{Table: "t", ID: 1, New: one}, {Table: "t", ID: 2, New: one}, {Table: "t", ID: 3, Old: one[:2], New: one[2:]}, {Table: "t", ID: 4, Old: one, New: one[:3]},
		{Table: "s", ID: 1, Old: one, New: one}, {Table: "s", ID: 2, Old: one[:1], New: one[1:2]}, {Table: "t", ID: 3, Old: one[2:], New: one[3:]}, {Table: "s", ID: 3, Old: one, New: one},
	}
	k := delta.New()
	for _, c := range l {
		k.Note(c)
	}
	apart(t, "Net", func() []delta.Change { return delta.Net(deep(l)) })
	apart(t, "Net of lists that share", func() []delta.Change { return delta.Net(l) })
	apart(t, "Since", func() []delta.Change { return k.Since(0) })
	for kind := range 4 {
		apart(t, "Of", func() []delta.Change { return delta.Of(l, "t", kind) })
		apart(t, "Of", func() []delta.Change { return delta.Of(l, "s", kind) })
	}
	if !alike(one, values(1, 2, 3, 4)) {
		t.Error("what was handed in was written over:", one)
	}
	is(t, k, l)
}

func TestTwoAnswersShareNothing(t *testing.T) {
	k := delta.New()
	for _, c := range plenty() {
		k.Note(c)
	}
	first, second := k.Since(0), k.Since(0)
	was := deep(second)
	spoil(first)
	want(t, "the second answer", second, was)
	l := plenty()
	first, second = delta.Net(l), delta.Net(l)
	spoil(first)
	want(t, "the second answer", second, was)
}

// An empty list and no list are one, whether it has room or not.
func TestEmptyListsAreNone(t *testing.T) {
	empty := make([]api.Value, 0, 3)
	l := []delta.Change{{Table: "t", ID: 1, Old: empty, New: values(1)}, {Table: "t", ID: 2, Old: values(1), New: empty}, {Table: "t", ID: 3, Old: empty, New: empty}, {Table: "t", ID: 4, Old: empty}}
	k := delta.New()
	for _, c := range l {
		k.Note(c)
	}
	these := []delta.Change{inserted("t", 1, 1), deleted("t", 2, 1)}
	want(t, "Net", delta.Net(l), these)
	want(t, "Since", k.Since(0), these)
	want(t, "Of", delta.Of(l, "t", 0), []delta.Change{{Table: "t", ID: 3}, {Table: "t", ID: 4}})
	for _, c := range slices.Concat(delta.Net(l), k.Since(0), delta.Of(l, "t", delta.Inserts), delta.Of(l, "t", delta.Deletes)) {
		spoilLists(c)
	}
	if empty[:3][0] != (api.Value{}) {
		t.Error("the room of an empty list is shared")
	}
	want(t, "Since", k.Since(0), these)
}
