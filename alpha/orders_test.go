package alpha_test

import (
	"fmt"
	"math"
	"math/rand/v2"
	"slices"
	"testing"

	"tripwire/alpha"
	"tripwire/api"
	"tripwire/pred"
)

// kept is memories in a plain list, reckoned anew as the chapter says.
type kept []plain

type plain struct {
	key int
	c   pred.Cond
	ids []int // in no order, each once
}

func (k *kept) place(key int) int {
	return slices.IndexFunc(*k, func(m plain) bool { return m.key == key })
}

func (m *plain) cut(id int) {
	m.ids = slices.DeleteFunc(m.ids, func(has int) bool { return has == id })
}

func (m *plain) put(id int) {
	m.cut(id)
	m.ids = append(m.ids, id)
}

func (k *kept) add(key int, c pred.Cond, rows []api.Row) api.Errno {
	if k.place(key) >= 0 {
		return api.ErrThere
	}
	m := plain{key: key, c: c}
	for _, r := range rows {
		if pred.Meets(c, r.Values) {
			m.put(r.ID)
		}
	}
	*k = append(*k, m)
	return api.OK
}

func (k *kept) out(key int) api.Errno {
	i := k.place(key)
	if i < 0 {
		return api.ErrName
	}
	*k = slices.Delete(*k, i, i+1)
	return api.OK
}

func (k *kept) note(id int, was, is []api.Value) {
	for i := range *k {
		m := &(*k)[i]
		if len(was) > 0 && pred.Meets(m.c, was) {
			m.cut(id)
		}
		if len(is) > 0 && pred.Meets(m.c, is) {
			m.put(id)
		}
	}
}

// differs tells how a set differs from the list, also at some keys that aren't there; "" if it doesn't.
func (k *kept) differs(s *alpha.Set, none ...int) string {
	var keys []int
	for _, m := range *k {
		keys = append(keys, m.key)
		want := slices.Sorted(slices.Values(m.ids))
		if l, there := s.IDs(m.key); !there || !slices.Equal(l, want) {
			return fmt.Sprintf("IDs(%d): %v, %v, not %v", m.key, l, there, want)
		}
	}
	for _, key := range none {
		if l, there := s.IDs(key); k.place(key) < 0 && (there || l != nil) {
			return fmt.Sprintf("IDs(%d): %v, %v, though it isn't there", key, l, there)
		}
	}
	slices.Sort(keys)
	if l := s.Keys(); !slices.Equal(l, keys) {
		return fmt.Sprintf("Keys: %v, not %v", l, keys)
	}
	return ""
}

// call is a call that changes a set.
type call struct {
	what    string // Add, Cut or Note
	n       int    // a key; of a Note an id
	c       pred.Cond
	rows    []api.Row
	was, is []api.Value
}

// differs does a call with both, and tells how they differ.
func (c call) differs(s *alpha.Set, k *kept) string {
	var e, f api.Errno
	switch c.what {
	case "Add":
		e, f = s.Add(c.n, c.c, c.rows), k.add(c.n, c.c, c.rows)
	case "Cut":
		e, f = s.Cut(c.n), k.out(c.n)
	case "Note":
		s.Note(c.n, c.was, c.is)
		k.note(c.n, c.was, c.is)
	}
	if e != f {
		return fmt.Sprintf("%d, not %d", e, f)
	}
	return k.differs(s, c.n, c.n+1, -c.n, 0, 1)
}

// every plays all lists of so many calls, behind those ahead.
func every(t *testing.T, many int, kinds, ahead []call) {
	if many > 0 {
		for _, c := range kinds {
			every(t, many-1, kinds, append(ahead, c))
		}
		return
	}
	for _, s := range []*alpha.Set{alpha.New(), {}} {
		k := &kept{}
		for i, c := range ahead {
			if d := c.differs(s, k); d != "" {
				t.Fatalf("%s: at %d: %s", short(ahead), i, d)
			}
		}
	}
}

func TestEveryShortOrder(t *testing.T) {
	above, below := cond("a > 3"), cond("a < 3")
	rows := []api.Row{at(1, of(5)), at(2, of(1)), at(3, of(3))}
	kinds := []call{
		{what: "Add", n: 1, c: above, rows: rows},
		{what: "Add", n: 1, c: below, rows: rows[:2]},
		{what: "Add", n: -2, c: above},
		{what: "Cut", n: 1},
		{what: "Cut", n: -2},
		{what: "Note", n: 1, was: of(5), is: of(1)},
		{what: "Note", n: 1, was: of(1), is: of(5)},
		{what: "Note", n: 1, is: of(4)},
		{what: "Note", n: 2, was: of(1)},
	}
	for many := range 6 {
		every(t, many, kinds, nil)
	}
}

func pick[T any](r *rand.Rand, l ...T) T { return l[r.IntN(len(l))] }

func numberByChance(r *rand.Rand) int {
	return pick(r, math.MinInt, math.MinInt+1, -1<<32, -2, -1, 0, 1, 2, 3, 1<<32, 1<<32+1, math.MaxInt-1, math.MaxInt, r.IntN(20)-10)
}

// asked is what conditions over t ask: some that most rows meet, some that few or none meet, and some that can't always be reckoned.
func asked() []string {
	return []string{
		"a > 3", "a >= 3", "a < 3", "3 >= a", "a = 3", "a <> 3", "a IS NULL", "NOT a IS NULL", "a > 1 AND a < 4", "a > 4 AND a < 2",
		"b = 'x'", "b < 'x' AND a > 1", "b IS NULL", "NOT b = 'x'", "c", "NOT c", "c IS NULL", "c AND a < 4", "a = 1 OR b = 'x'", "TRUE", "FALSE",
		"a + a > 4", "a * 9223372036854775807 > 0", "a * 9223372036854775807 > 0 OR c", "c OR a * 9223372036854775807 > 0", "a IS NULL AND b IS NULL AND c IS NULL",
	}
}

func valuesByChance(r *rand.Rand) []api.Value {
	l := row(number(r.IntN(6)), text(pick(r, "", "w", "x", "xx")), truth(r.IntN(2)))
	for i := range l {
		if r.IntN(5) == 0 {
			l[i] = api.Value{}
		}
	}
	return l
}

// rowByChance is one of t, or none.
func rowByChance(r *rand.Rand) []api.Value {
	switch r.IntN(8) {
	case 0:
		return nil
	case 1:
		return []api.Value{}
	}
	return valuesByChance(r)
}

func rowsByChance(r *rand.Rand) []api.Row {
	var l []api.Row
	for range r.IntN(8) {
		l = append(l, at(numberByChance(r), rowByChance(r)))
	}
	return l
}

func callByChance(r *rand.Rand) call {
	return call{
		what: pick(r, "Add", "Cut", "Note", "Note", "Note"),
		n:    numberByChance(r),
		c:    pick(r, cond(pick(r, asked()...)), anyCond(r)),
		rows: rowsByChance(r),
		was:  pick(r, rowByChance(r), rowByChance(r), anyRow(r)),
		is:   pick(r, rowByChance(r), rowByChance(r), anyRow(r)),
	}
}

func TestOrdersByChance(t *testing.T) {
	memories, ids := 0, 0
	for seed := range uint64(150) {
		r := rand.New(rand.NewPCG(180, seed))
		s, k := alpha.New(), &kept{}
		for i := range 200 {
			c := callByChance(r)
			if d := c.differs(s, k); d != "" {
				t.Fatalf("seed %d, call %d, %s: %s", seed, i, short(c), d)
			}
			memories += len(*k)
			for _, m := range *k {
				ids += len(m.ids)
			}
		}
	}
	if memories < 100000 || ids < 300000 {
		t.Error(memories, ids, "too few to tell anything")
	}
}

// Many memories and many ids, of which each Note is of one.
func TestManyMemories(t *testing.T) {
	r := rand.New(rand.NewPCG(181, 0))
	s, k := alpha.New(), &kept{}
	for _, key := range r.Perm(300) {
		c := call{what: "Add", n: key - 150, c: cond(fmt.Sprintf("a > %d AND a < %d", key%50, key%70))}
		for id := range 40 {
			c.rows = append(c.rows, at(id, of(r.IntN(70))))
		}
		if d := c.differs(s, k); d != "" {
			t.Fatal(d)
		}
	}
	for range 300 {
		c := call{what: "Note", n: r.IntN(2000) - 1000, was: of(r.IntN(70)), is: of(r.IntN(70))}
		if d := c.differs(s, k); d != "" {
			t.Fatal(d)
		}
	}
}
