package pred_test

import (
	"fmt"
	"math"
	"math/rand/v2"
	"slices"
	"testing"

	"tripwire/api"
	"tripwire/check"
	"tripwire/pred"
)

// kept is a plain list of conditions that is kept beside an Index.
type kept struct {
	ids   []int
	conds []pred.Cond
}

func (k *kept) add(id int, c pred.Cond) api.Errno {
	if slices.Contains(k.ids, id) {
		return api.ErrThere
	}
	k.ids, k.conds = append(k.ids, id), append(k.conds, c)
	return api.OK
}

func (k *kept) cut(id int) api.Errno {
	for i := range k.ids {
		if k.ids[i] == id {
			k.ids, k.conds = slices.Delete(k.ids, i, i+1), slices.Delete(k.conds, i, i+1)
			return api.OK
		}
	}
	return api.ErrName
}

func (k *kept) match(r []api.Value) []int {
	var ids []int
	for i, c := range k.conds {
		if toldMeets(c, r) {
			ids = append(ids, k.ids[i])
		}
	}
	slices.Sort(ids)
	return ids
}

// call is a call that changes an Index.
type call struct {
	what string // Add or Cut
	id   int
	c    pred.Cond
}

// differs does a call with both, and tells how they differ, in what they answer or in what there is behind it; "" if they don't.
func (c call) differs(x *pred.Index, k *kept, rows [][]api.Value) string {
	var e, f api.Errno
	if c.what == "Add" {
		e, f = x.Add(c.id, c.c), k.add(c.id, c.c)
	} else {
		e, f = x.Cut(c.id), k.cut(c.id)
	}
	switch {
	case e != f:
		return fmt.Sprintf("%d, not %d", e, f)
	case x.Len() != len(k.ids):
		return fmt.Sprintf("Len %d, not %d", x.Len(), len(k.ids))
	}
	for _, r := range rows {
		if got, want := x.Match(r), k.match(r); !slices.Equal(got, want) || len(got) == 0 && got != nil {
			return fmt.Sprintf("Match of %s: %v, not %v", short(r), got, want)
		}
	}
	return ""
}

// played does the calls with an Index and a list, and tells the first difference.
func played(x *pred.Index, calls []call, rows [][]api.Value) string {
	k := &kept{}
	for i, c := range calls {
		if d := c.differs(x, k, rows); d != "" {
			return fmt.Sprintf("%s: at %d: %s", short(calls), i, d)
		}
	}
	return ""
}

// every plays all lists of so many calls.
func every(t *testing.T, many int, kinds []call, rows [][]api.Value, ahead []call) {
	if many == 0 {
		for _, x := range []*pred.Index{pred.New(), {}} {
			if d := played(x, ahead, rows); d != "" {
				t.Fatal(d)
			}
		}
		return
	}
	for _, c := range kinds {
		every(t, many-1, kinds, rows, append(ahead, c))
	}
}

func TestIndexEveryShortOrder(t *testing.T) {
	a := pred.Of(nodes(op("=", column(0), val(number(3)))))
	b := pred.Of(nodes(op(">", column(0), val(number(2))), op("<>", column(0), val(number(3)))))
	kinds := []call{{"Add", 1, a}, {"Add", 1, b}, {"Add", 2, a}, {"Add", -1, pred.Cond{}}, {"Cut", 1, a}, {"Cut", 2, b}, {"Cut", -1, a}}
	rows := [][]api.Value{row(number(3)), row(number(4)), row(null)}
	for many := range 6 {
		every(t, many, kinds, rows, nil)
	}
}

func idsByChance(r *rand.Rand) int {
	return pick(r, math.MinInt, math.MinInt+1, -1<<32, -2, -1, 0, 1, 2, 3, 1<<32, 1<<32+1, math.MaxInt-1, math.MaxInt, r.IntN(40)-20)
}

// All conditions are seen by all rows behind each call.
func TestIndexByChance(t *testing.T) {
	matched, errors := 0, 0
	for seed := range uint64(60) {
		r := rand.New(rand.NewPCG(170, seed))
		x, k := pred.New(), &kept{}
		for i := range 150 {
			c := call{pick(r, "Add", "Add", "Cut"), idsByChance(r), condByChance(r)}
			if i > 100 {
				c.what = pick(r, "Add", "Cut", "Cut")
			}
			rows := [][]api.Value{rowByChance(r), rowByChance(r), anyRow(r)}
			if d := c.differs(x, k, rows); d != "" {
				t.Fatalf("seed %d, call %d, %s: %s", seed, i, short(c), d)
			}
			for _, row := range rows {
				matched += len(k.match(row))
			}
			if x.Len() == 0 {
				errors++
			}
		}
	}
	if matched < 10000 || errors == 0 {
		t.Error(matched, errors, "too few to tell anything")
	}
}

func TestIndexIDs(t *testing.T) {
	x := pred.New()
	ids := []int{7, -3, math.MaxInt, 0, 12, -1, math.MinInt, 1 << 32, 3, 2, -1 << 32, 1<<32 + 3, 10, 9, 100}
	for i, id := range ids {
		if e := x.Add(id, pred.Cond{}); e != api.OK || x.Len() != i+1 {
			t.Error(id, e, x.Len())
		}
		for _, there := range ids[:i+1] {
			if e := x.Add(there, pred.Of(nodes(val(no)))); e != api.ErrThere || x.Len() != i+1 {
				t.Error(there, e, x.Len())
			}
		}
		for _, none := range append(slices.Clone(ids[i+1:]), 1, -7, math.MaxInt-1) {
			if e := x.Cut(none); e != api.ErrName || x.Len() != i+1 {
				t.Error(none, e, x.Len())
			}
		}
		want := slices.Sorted(slices.Values(ids[:i+1]))
		for range 3 {
			if got := x.Match(nil); !slices.Equal(got, want) {
				t.Error(got, want)
			}
		}
	}
	for i, id := range ids {
		if e := x.Cut(id); e != api.OK || x.Len() != len(ids)-i-1 {
			t.Error(id, e, x.Len())
		}
		if e := x.Cut(id); e != api.ErrName {
			t.Error(id, e)
		}
		if got, want := x.Match(nil), slices.Sorted(slices.Values(ids[i+1:])); !slices.Equal(got, want) {
			t.Error(got, want)
		}
	}
}

// What is refused leaves the condition that is there; what comes again behind a Cut is what it is then.
func TestIndexKeepsTheFirst(t *testing.T) {
	x := pred.New()
	three, four := pred.Of(nodes(op("=", column(0), val(number(3))))), pred.Of(nodes(op("=", column(0), val(number(4)))))
	match := func(n int, want ...int) {
		t.Helper()
		if got := x.Match(row(number(n))); !slices.Equal(got, want) {
			t.Error(n, got, want)
		}
	}
	x.Add(5, three)
	x.Add(5, four)
	match(3, 5)
	match(4)
	x.Cut(5)
	match(3)
	x.Add(5, four)
	match(3)
	match(4, 5)
	x.Add(6, three) // the same condition under two ids
	x.Add(-7, three)
	match(3, -7, 6)
	x.Cut(6)
	match(3, -7)
	match(4, 5)
}

func TestIndexOfMany(t *testing.T) {
	r := rand.New(rand.NewPCG(171, 0))
	x := pred.New()
	for _, id := range r.Perm(2000) {
		if e := x.Add(id-1000, pred.Of(nodes(op("=", column(0), val(number(id%10)))))); e != api.OK {
			t.Fatal(id, e)
		}
	}
	for n := range 11 {
		var want []int
		for id := range 2000 {
			if id%10 == n {
				want = append(want, id-1000)
			}
		}
		if got := x.Match(row(number(n))); !slices.Equal(got, want) {
			t.Errorf("%d: %s", n, short(got))
		}
	}
}

func TestNilIndex(t *testing.T) {
	var x *pred.Index
	for range 2 {
		for _, id := range []int{0, 1, -1} {
			for _, c := range []pred.Cond{{}, pred.Of(nodes(val(yes))), tests(pred.Test{})} {
				if e := x.Add(id, c); e != api.ErrArg {
					t.Error("Add", e)
				}
			}
			if e := x.Cut(id); e != api.ErrArg {
				t.Error("Cut", e)
			}
		}
		for _, r := range [][]api.Value{nil, {}, row(yes)} {
			if l := x.Match(r); l != nil {
				t.Error("Match", l)
			}
		}
		if x.Len() != 0 {
			t.Error("Len", x.Len())
		}
	}
}

// No sentence names the zero Index: it has no conditions.
func TestZeroIndex(t *testing.T) {
	var x pred.Index
	if x.Len() != 0 || x.Match(row(yes)) != nil || x.Cut(0) != api.ErrName || x.Add(0, pred.Cond{}) != api.OK || x.Len() != 1 {
		t.Error(x.Len())
	}
	if x := pred.New(); x == nil || x.Len() != 0 || x.Match(row(yes)) != nil || x.Cut(0) != api.ErrName {
		t.Error("New")
	}
}

// One Index has nothing of another one.
func TestIndexesAreApart(t *testing.T) {
	x, y := pred.New(), pred.New()
	x.Add(1, pred.Of([]check.Node{val(yes)}))
	if y.Len() != 0 || y.Match(nil) != nil || y.Cut(1) != api.ErrName || y.Add(1, pred.Of([]check.Node{val(no)})) != api.OK {
		t.Error("y has what x has")
	}
	if !slices.Equal(x.Match(nil), []int{1}) || y.Match(nil) != nil {
		t.Error(x.Match(nil), y.Match(nil))
	}
	y.Cut(1)
	if x.Len() != 1 || pred.New().Len() != 0 {
		t.Error(x.Len())
	}
}
