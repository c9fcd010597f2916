package delta_test

import (
	"fmt"
	"math"
	"math/rand/v2"
	"slices"
	"testing"

	"tripwire/delta"
)

// marks are numbers that may be asked of a tracker with n changes: below all, each one that is, above.
func marks(n int) []int {
	l := []int{math.MinInt, math.MinInt + 1, -2, -1, n + 1, n + 2, n + 100, math.MaxInt - 1, math.MaxInt}
	for i := range n + 1 {
		l = append(l, i)
	}
	return l
}

// behind is what a list has behind the first mark ones.
func behind(l []delta.Change, mark int) []delta.Change {
	if mark < 0 {
		return l
	}
	if mark > len(l) {
		return nil
	}
	return l[mark:]
}

// first is what a list keeps behind a Back.
func first(l []delta.Change, mark int) []delta.Change {
	if mark < 0 {
		return nil
	}
	if mark > len(l) {
		return l
	}
	return l[:mark]
}

// is holds a tracker against the list that is kept beside it.
func is(t *testing.T, k *delta.Tracker, l []delta.Change) {
	t.Helper()
	if k.Mark() != len(l) {
		t.Fatalf("Mark %d, not %d", k.Mark(), len(l))
	}
	for _, m := range marks(len(l)) {
		want(t, fmt.Sprint("Since ", m), k.Since(m), net(behind(l, m)))
	}
	if k.Mark() != len(l) {
		t.Fatalf("Mark %d behind Since, not %d", k.Mark(), len(l))
	}
}

func TestANewTrackerHasNothing(t *testing.T) {
	k := delta.New()
	if k == nil {
		t.Fatal("New is nil")
	}
	is(t, k, nil)
	for _, m := range marks(0) {
		k.Back(m)
		is(t, k, nil)
	}
	k.Note(inserted("t", 1, 1))
	is(t, k, []delta.Change{inserted("t", 1, 1)})
	is(t, delta.New(), nil)
}

func TestTheZeroTrackerIsANewOne(t *testing.T) {
	var k delta.Tracker
	is(t, &k, nil)
	k.Back(0)
	k.Note(updated("t", 1, 1, 2))
	is(t, &k, []delta.Change{updated("t", 1, 1, 2)})
}

func TestANilTrackerNotesNothing(t *testing.T) {
	var k *delta.Tracker
	for _, m := range marks(3) {
		k.Note(inserted("t", 1, 1))
		if got := k.Since(m); k.Mark() != 0 || len(got) != 0 {
			t.Error(m, k.Mark(), got)
		}
		k.Back(m)
	}
	is(t, k, nil)
}

func TestTrackersAreApart(t *testing.T) {
	a, b := delta.New(), delta.New()
	a.Note(inserted("t", 1, 1))
	b.Note(inserted("t", 2, 1))
	b.Note(deleted("t", 2, 1))
	is(t, a, []delta.Change{inserted("t", 1, 1)})
	is(t, b, []delta.Change{inserted("t", 2, 1), deleted("t", 2, 1)})
	b.Back(0)
	is(t, a, []delta.Change{inserted("t", 1, 1)})
	is(t, b, nil)
}

func TestSinceAtEveryMark(t *testing.T) {
	l := []delta.Change{
		inserted("t", 2, 1), updated("t", 1, 5, 6), updated("t", 2, 1, 2), deleted("s", 9, 7), inserted("t", 3, 1), deleted("t", 3, 1), updated("t", 4, 1, 2), updated("t", 4, 2, 1),
	}
	k := delta.New()
	for i, c := range l {
		k.Note(c)
		is(t, k, l[:i+1])
	}
	all := []delta.Change{deleted("s", 9, 7), updated("t", 1, 5, 6), inserted("t", 2, 2)}
	for _, m := range []int{math.MinInt, -1, 0} {
		want(t, fmt.Sprint("Since ", m), k.Since(m), all)
	}
	want(t, "Since 1", k.Since(1), []delta.Change{deleted("s", 9, 7), updated("t", 1, 5, 6), updated("t", 2, 1, 2)})
	want(t, "Since 3", k.Since(3), []delta.Change{deleted("s", 9, 7)})
	want(t, "Since 4", k.Since(4), nil)
	want(t, "Since 5", k.Since(5), []delta.Change{deleted("t", 3, 1)})
	want(t, "Since 7", k.Since(7), []delta.Change{updated("t", 4, 2, 1)})
	for _, m := range []int{8, 9, math.MaxInt} {
		want(t, fmt.Sprint("Since ", m), k.Since(m), nil)
	}
}

func TestNoteCountsWhatDoesNothing(t *testing.T) {
	k := delta.New()
	l := []delta.Change{{}, {Table: "t", ID: 1}, updated("t", 1, 1, 1), updated("t", 1, 1, 1), inserted("t", 1, 3)}
	for _, c := range l {
		k.Note(c)
	}
	is(t, k, l)
	want(t, "Since 1", k.Since(1), []delta.Change{inserted("t", 1, 3)})
	want(t, "Since 2", k.Since(2), []delta.Change{updated("t", 1, 1, 3)})
}

func TestBackToEveryMark(t *testing.T) {
	l := few()[:8]
	for _, m := range marks(len(l)) {
		k := delta.New()
		for _, c := range l {
			k.Note(c)
		}
		k.Back(m)
		left := slices.Clone(first(l, m))
		is(t, k, left)
		k.Back(m)
		is(t, k, left)
		for i := range 9 { // what is noted now stands where the forgotten ones stood
			left = append(left, updated("u", i%3, i, i+3))
			k.Note(left[len(left)-1])
			is(t, k, left)
		}
	}
}

// step is a call that changes a tracker, and the list beside it.
type step func(k *delta.Tracker, l []delta.Change) []delta.Change

func noting(c delta.Change) step {
	return func(k *delta.Tracker, l []delta.Change) []delta.Change {
		k.Note(c)
		return append(slices.Clone(l), c)
	}
}

func backing(mark func(n int) int) step {
	return func(k *delta.Tracker, l []delta.Change) []delta.Change {
		m := mark(len(l))
		k.Back(m)
		return slices.Clone(first(l, m))
	}
}

func TestEveryFewCalls(t *testing.T) {
	steps := []step{
		noting(inserted("t", 1, 1)), noting(updated("t", 1, 1, 2)), noting(deleted("t", 1, 2)), noting(inserted("s", 1, 1)), noting(delta.Change{Table: "t", ID: 1}),
		backing(func(n int) int { return 0 }), backing(func(n int) int { return -1 }), backing(func(n int) int { return n }),
		backing(func(n int) int { return n - 1 }), backing(func(n int) int { return n + 1 }), backing(func(n int) int { return n / 2 }), backing(func(int) int { return 2 }),
	}
	const calls = 4
	for n := range len(steps) * len(steps) * len(steps) * len(steps) {
		k, l := delta.New(), []delta.Change(nil)
		for range calls {
			l = steps[n%len(steps)](k, l)
			n /= len(steps)
			is(t, k, l)
		}
	}
}

func TestCallsByChance(t *testing.T) {
	longest := 0
	for seed := range uint64(60) {
		r := rand.New(rand.NewPCG(seed, 13))
		k, l := delta.New(), []delta.Change(nil)
		for range 120 {
			if r.IntN(8) == 0 {
				l = backing(func(n int) int { return marks(n)[r.IntN(len(marks(n)))] })(k, l)
			} else {
				l = noting(byChance(r))(k, l)
			}
			is(t, k, l)
			longest = max(longest, len(l))
		}
	}
	if longest < 20 {
		t.Error("no list became long:", longest)
	}
}

// byChance is a change that follows nothing.
func byChance(r *rand.Rand) delta.Change {
	lists := someLists()
	n := someNames(r, 1)[0]
	if r.IntN(2) == 0 {
		n = name{"t", r.IntN(4)}
	}
	return delta.Change{Table: n.table, ID: n.id, Old: lists[r.IntN(6)], New: lists[r.IntN(6)]}
}

func TestATrackerOfAsManyAsALogHas(t *testing.T) {
	k := delta.New()
	for i := range 100000 {
		k.Note(updated("t", i%5, i-5, i))
	}
	if k.Mark() != 100000 || len(k.Since(0)) != 5 {
		t.Fatal(k.Mark(), told(k.Since(0)))
	}
	want(t, "the last two", k.Since(99998), []delta.Change{updated("t", 3, 99993, 99998), updated("t", 4, 99994, 99999)})
	k.Back(3)
	is(t, k, []delta.Change{updated("t", 0, -5, 0), updated("t", 1, -4, 1), updated("t", 2, -3, 2)})
}
