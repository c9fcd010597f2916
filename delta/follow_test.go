package delta_test

import (
	"fmt"
	"math/rand/v2"
	"slices"
	"testing"

	"tripwire/api"
	"tripwire/delta"
)

// name is which row it is.
type name struct {
	table string
	id    int
}

// world is all rows that there are.
type world map[name][]api.Value

// put makes a row anew, and is the change that this is.
func (w world) put(n name, is []api.Value) delta.Change {
	c := delta.Change{Table: n.table, ID: n.id, Old: slices.Clone(w[n]), New: slices.Clone(is)}
	if w[n] = slices.Clone(is); len(is) == 0 {
		delete(w, n)
	}
	return c
}

func (w world) copied() world {
	c := world{}
	for n, v := range w {
		c[n] = slices.Clone(v)
	}
	return c
}

// differences are how the rows behind differ from those ahead: each is looked at by what is there, and no change.
func differences(ahead, behind world) (inserted, deleted, updated []delta.Change) {
	for n, is := range behind {
		c := delta.Change{Table: n.table, ID: n.id, Old: ahead[n], New: is}
		if was, there := ahead[n]; !there {
			inserted = append(inserted, c)
		} else if !alike(was, is) {
			updated = append(updated, c)
		}
	}
	for n, was := range ahead {
		if _, there := behind[n]; !there {
			deleted = append(deleted, delta.Change{Table: n.table, ID: n.id, Old: was})
		}
	}
	for _, l := range [][]delta.Change{inserted, deleted, updated} {
		slices.SortFunc(l, byRow)
	}
	return inserted, deleted, updated
}

// holdsAgainst holds the net effect of changes against how the rows differ.
func holdsAgainst(t *testing.T, l []delta.Change, ahead, behind world) {
	t.Helper()
	inserted, deleted, updated := differences(ahead, behind)
	all := slices.Concat(inserted, deleted, updated)
	slices.SortFunc(all, byRow)
	net := delta.Net(l)
	want(t, "Net "+told(l), net, all)
	var tables []string
	for _, c := range l {
		tables = append(tables, c.Table)
	}
	slices.Sort(tables)
	for _, table := range slices.Compact(tables) {
		others := func(c delta.Change) bool { return c.Table != table }
		want(t, "inserted", delta.Of(net, table, delta.Inserts), slices.DeleteFunc(slices.Clone(inserted), others))
		want(t, "deleted", delta.Of(net, table, delta.Deletes), slices.DeleteFunc(slices.Clone(deleted), others))
		want(t, "updated", delta.Of(net, table, delta.Updates), slices.DeleteFunc(slices.Clone(updated), others))
	}
}

// parts holds the net effect of two parts' net effects against that of the whole, at every place.
func parts(t *testing.T, l []delta.Change) {
	t.Helper()
	whole := delta.Net(l)
	for i := range len(l) + 1 {
		two := slices.Concat(delta.Net(l[:i]), delta.Net(l[i:]))
		want(t, fmt.Sprint("parted at ", i, ": ", told(l)), delta.Net(two), whole)
	}
}

// someNames are rows by chance, in tables of which one is a beginning of another.
func someNames(r *rand.Rand, n int) []name {
	var l []name
	for range n {
		l = append(l, name{someTables()[r.IntN(len(someTables()))], someIDs()[r.IntN(len(someIDs()))]})
	}
	return l
}

// chance is changes that follow one another, by chance, with the rows ahead and behind.
func chance(r *rand.Rand, rows, n int) (l []delta.Change, ahead, behind world) {
	names, kinds := someNames(r, rows), someLists()[:8+r.IntN(8)]
	some := func() []api.Value {
		if r.IntN(3) == 0 {
			return nil
		}
		return kinds[r.IntN(len(kinds))]
	}
	behind = world{}
	for _, n := range names {
		behind.put(n, some())
	}
	ahead = behind.copied()
	for range n {
		l = append(l, behind.put(names[r.IntN(len(names))], some()))
	}
	return l, ahead, behind
}

func TestNetIsHowRowsDiffer(t *testing.T) {
	found := [4]int{}
	for seed := range uint64(4000) {
		r := rand.New(rand.NewPCG(seed, 10))
		l, ahead, behind := chance(r, 1+r.IntN(12), r.IntN(40))
		holdsAgainst(t, l, ahead, behind)
		for _, c := range delta.Net(l) {
			found[delta.Kind(c)]++
		}
	}
	if found[0] != 0 || found[1] < 1000 || found[2] < 1000 || found[3] < 1000 {
		t.Error("too few of one kind:", found)
	}
}

func TestNetIsHowManyRowsDiffer(t *testing.T) {
	for seed := range uint64(4) {
		r := rand.New(rand.NewPCG(seed, 11))
		names, ahead, behind := []name{}, world{}, world{}
		for i := range 3000 {
			names = append(names, name{someTables()[i%7], i / 7})
		}
		var l []delta.Change
		for range 20000 {
			l = append(l, behind.put(names[r.IntN(len(names))], values(make([]int, r.IntN(3))...)))
		}
		holdsAgainst(t, l, ahead, behind)
	}
}

// histories calls f with all changes that follow one another, of two rows, each of which is nothing or one of two values, and with the rows ahead and behind.
func histories(n int, f func(l []delta.Change, ahead, behind world)) {
	states := [][]api.Value{nil, values(1), values(2)}
	names := []name{{"t", 1}, {"t", 0}}
	for _, a := range states {
		for _, b := range states {
			ahead := world{}
			ahead.put(names[0], a)
			ahead.put(names[1], b)
			var longer func(l []delta.Change, is world)
			longer = func(l []delta.Change, is world) {
				f(l, ahead, is)
				for _, row := range names {
					for _, s := range states {
						if next := is.copied(); len(l) < n {
							longer(append(l, next.put(row, s)), next)
						}
					}
				}
			}
			longer(nil, ahead)
		}
	}
}

func TestNetIsHowRowsDifferInEveryShortHistory(t *testing.T) {
	histories(4, func(l []delta.Change, ahead, behind world) { holdsAgainst(t, l, ahead, behind) })
}

func TestNetOfTwoPartsInEveryShortHistory(t *testing.T) {
	histories(4, func(l []delta.Change, _, _ world) { parts(t, l) })
}

func TestNetOfTwoPartsByChance(t *testing.T) {
	for seed := range uint64(1500) {
		r := rand.New(rand.NewPCG(seed, 12))
		l, _, _ := chance(r, 1+r.IntN(8), r.IntN(40))
		parts(t, l)
	}
}

func TestNetOfANetEffectIsItself(t *testing.T) {
	lists(few(), 4, func(l []delta.Change) {
		if net := delta.Net(l); !same(delta.Net(net), net) {
			t.Fatalf("%s: %s, then %s", told(l), told(net), told(delta.Net(net)))
		}
	})
}

// keepsAll tells whether each row that a part names is in its net effect.
func keepsAll(part []delta.Change) bool {
	net := net(part)
	for _, c := range part {
		if !slices.ContainsFunc(net, func(d delta.Change) bool { return byRow(c, d) == 0 }) {
			return false
		}
	}
	return true
}

// Of changes that don't follow one another a part may leave out a row that the other one goes on from elsewhere: where neither does, the two make the whole as well.
func TestNetOfTwoPartsThatDoNotFollow(t *testing.T) {
	n := 0
	lists(few(), 4, func(l []delta.Change) {
		for i := range len(l) + 1 {
			if !keepsAll(l[:i]) || !keepsAll(l[i:]) {
				continue
			}
			n++
			two := slices.Concat(delta.Net(l[:i]), delta.Net(l[i:]))
			if !same(delta.Net(two), delta.Net(l)) {
				t.Fatalf("%s, parted at %d: %s", told(l), i, told(delta.Net(two)))
			}
		}
	})
	if n < 10000 {
		t.Error("too few:", n)
	}
}
