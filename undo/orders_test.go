package undo_test

import (
	"fmt"
	"math"
	"math/rand/v2"
	"slices"
	"testing"

	"tripwire/api"
	"tripwire/undo"
)

// kept is a list of entries and savepoints that is kept beside a log, by the chapter's words.
type kept struct {
	quota   int
	entries []undo.Entry
	saves   []mark
}

type mark struct {
	name string
	at   int
}

// to leaves the savepoints that were made at n entries or fewer, whichever place they have.
func (k *kept) to(n int) []undo.Entry {
	if n < 0 {
		n = 0
	}
	if n > len(k.entries) {
		return nil
	}
	var taken []undo.Entry
	for i := len(k.entries) - 1; i >= n; i-- {
		taken = append(taken, k.entries[i])
	}
	var saves []mark
	for _, s := range k.saves {
		if s.at <= n {
			saves = append(saves, s)
		}
	}
	k.entries, k.saves = slices.Clone(k.entries[:n]), saves
	return taken
}

// back finds the newest by going through all from the eldest on, and puts together anew what stays.
func (k *kept) back(name string) ([]undo.Entry, api.Errno) {
	newest := -1
	for i, s := range k.saves {
		if s.name == name {
			newest = i
		}
	}
	if newest < 0 {
		return nil, api.ErrMark
	}
	stay := slices.Clone(k.saves[:newest+1])
	taken := k.to(k.saves[newest].at)
	k.saves = stay
	return taken, api.OK
}

func (k *kept) add(e undo.Entry) api.Errno {
	if len(k.entries) == k.quota {
		return api.ErrLog
	}
	k.entries = append(k.entries, e)
	return api.OK
}

func (k *kept) names() []string {
	var l []string
	for _, s := range k.saves {
		l = append(l, s.name)
	}
	return l
}

// call is a call of a log: what it does, and with what.
type call struct {
	what string // Add, To, Save or Back
	n    int    // of To; of Add the entry's number
	name string // of Save and Back
}

// log does a call with a log; kept does it with the list beside.
func (c call) log(l *undo.Log) ([]undo.Entry, api.Errno) {
	switch c.what {
	case "Add":
		return nil, l.Add(numbered(c.n))
	case "To":
		return l.To(c.n), api.OK
	case "Save":
		l.Save(c.name)
		return nil, api.OK
	}
	return l.Back(c.name)
}

func (c call) kept(k *kept) ([]undo.Entry, api.Errno) {
	switch c.what {
	case "Add":
		return nil, k.add(numbered(c.n))
	case "To":
		return k.to(c.n), api.OK
	case "Save":
		k.saves = append(k.saves, mark{c.name, len(k.entries)})
		return nil, api.OK
	}
	return k.back(c.name)
}

// differs does a call with both, and tells how they differ, in what they answer or in what there is behind it; "" if they don't.
func (c call) differs(l *undo.Log, k *kept) string {
	got, e := c.log(l)
	want, f := c.kept(k)
	saves := l.Saves()
	switch {
	case e != f || !same(got, want):
		return fmt.Sprintf("%s, %d, not %s, %d", told(got), e, told(want), f)
	case l.Len() != len(k.entries):
		return fmt.Sprintf("Len %d, not %d", l.Len(), len(k.entries))
	case !slices.Equal(saves, k.names()) || (saves == nil) != (len(saves) == 0):
		return fmt.Sprintf("Saves %q, not %q", saves, k.names())
	}
	return ""
}

// played does the calls with a new log and a new list, and tells the first difference. In the end all entries are taken, to see them.
func played(quota int, calls []call) string {
	l, e := undo.New(quota)
	if e != api.OK {
		return fmt.Sprintf("New(%d): %d", quota, e)
	}
	k := &kept{quota: quota}
	for i, c := range append(slices.Clone(calls), call{what: "To"}) {
		if d := c.differs(l, k); d != "" {
			return fmt.Sprintf("quota %d, %v: at %d: %s", quota, calls, i, d)
		}
	}
	return ""
}

// every plays all lists of so many calls; an Add adds the entry of its place.
func every(t *testing.T, quota, many int, kinds []call, ahead []call) {
	if many == 0 {
		if d := played(quota, ahead); d != "" {
			t.Fatal(d)
		}
		return
	}
	for _, c := range kinds {
		if c.what == "Add" {
			c.n = len(ahead)
		}
		every(t, quota, many-1, kinds, append(ahead, c))
	}
}

func TestEveryShortOrder(t *testing.T) {
	kinds := []call{
		{what: "Add"}, {what: "To", n: -1}, {what: "To", n: 1}, {what: "To", n: 2}, {what: "To", n: 9},
		{what: "Save", name: "a"}, {what: "Save", name: "b"}, {what: "Back", name: "a"}, {what: "Back", name: "b"},
	}
	for many := range 6 {
		for quota := range 4 {
			every(t, quota, many, kinds, nil)
		}
	}
}

func TestEveryLongerOrderOfFewCalls(t *testing.T) {
	every(t, 3, 8, []call{{what: "Add"}, {what: "Save", name: "a"}, {what: "Save", name: "b"}, {what: "Back", name: "a"}}, nil)
	every(t, 5, 9, []call{{what: "Add"}, {what: "Save", name: "a"}, {what: "Back", name: "a"}}, nil)
	every(t, 4, 8, []call{{what: "Add"}, {what: "Save", name: "a"}, {what: "To", n: 1}, {what: "Back", name: "a"}}, nil)
}

// byChance is a list of calls, of Adds, Saves and ways back as often as the shares say.
func byChance(r *rand.Rand, many, adds, saves int) []call {
	var l []call
	names := []string{"", "a", "b", "c", "d"}
	for i := range many {
		name := names[r.IntN(len(names))]
		switch x := r.IntN(100); {
		case x < adds:
			l = append(l, call{what: "Add", n: i})
		case x < adds+saves:
			l = append(l, call{what: "Save", name: name})
		case x%4 == 0:
			l = append(l, call{what: "To", n: r.IntN(many/2) - 2})
		case x == 99:
			l = append(l, call{what: "To", n: []int{math.MinInt, math.MaxInt, 0, -1}[r.IntN(4)]})
		default:
			l = append(l, call{what: "Back", name: name})
		}
	}
	return l
}

// Each beginning of a list of calls is played on its own, so that all entries are seen behind each call.
func TestByChanceBehindEachCall(t *testing.T) {
	for seed := range uint64(60) {
		r := rand.New(rand.NewPCG(11, seed))
		calls := byChance(r, 70, 40+r.IntN(35), 10+r.IntN(15))
		quota := []int{0, 1, 2, 5, 12, 30, 70, api.MaxLog}[seed%8]
		for n := range len(calls) + 1 {
			if d := played(quota, calls[:n]); d != "" {
				t.Fatal(d)
			}
		}
	}
}

func TestByChanceForLong(t *testing.T) {
	for seed := range uint64(12) {
		r := rand.New(rand.NewPCG(12, seed))
		l := made(t, 300)
		k := &kept{quota: 300}
		for i, c := range byChance(r, 4000, 75+int(seed), 8) {
			if d := c.differs(l, k); d != "" {
				t.Fatalf("seed %d, call %d, %v: %s", seed, i, c, d)
			}
		}
		if d := (call{what: "To"}).differs(l, k); d != "" {
			t.Fatalf("seed %d, in the end: %s", seed, d)
		}
	}
}
