package index_test

import (
	"cmp"
	"maps"
	"math"
	"slices"
	"strings"
	"testing"

	"tripwire/api"
	"tripwire/arena"
	"tripwire/index"
	"tripwire/tree"
)

func boolean(n int) api.Value { return api.Value{Kind: api.Bool, N: n} }

func number(n int) api.Value { return api.Value{Kind: api.Int, N: n} }

func text(s string) api.Value { return api.Value{Kind: api.Text, S: s} }

// wide is a text of many bytes, of which n is among the last.
func wide(n int) api.Value {
	return text(strings.Repeat("\x00", 22) + string([]byte{byte(n >> 8), byte(n)}))
}

// someValues are values of every kind, rising: among them texts that are the beginning of others, and those whose keys come near to one another.
func someValues() []api.Value {
	l := []api.Value{{}, boolean(0), boolean(1)}
	for _, n := range []int{math.MinInt, math.MinInt + 1, -257, -256, -1, 0, 1, 2, 255, 256, 1 << 32, math.MaxInt - 1, math.MaxInt} {
		l = append(l, number(n))
	}
	zeros, full := strings.Repeat("\x00", 24), strings.Repeat("\xff", 24)
	for _, s := range []string{
		"", "\x00", "\x00\x00", zeros[1:], zeros, "\x00\x01", "\x00\xff", "\x01", "\x01\x00", "a", "a\x00", "a\x00\x01", "a\x00b", "a\x01", "aa",
		"ab", "b", strings.Repeat("x", 23), strings.Repeat("x", 24), "\xff", "\xff\x00", "\xff\xff", full[1:], full,
	} {
		l = append(l, text(s))
	}
	return l
}

// wrongValues are values that have no key.
func wrongValues() []api.Value {
	return []api.Value{
		{N: 1}, {S: "a"}, {N: -1, S: "a"}, boolean(2), boolean(-1), boolean(256), {Kind: api.Bool, N: 1, S: "a"},
		{Kind: api.Int, S: "a"}, {Kind: api.Int, N: 7, S: "\x00"}, {Kind: api.Text, N: 1}, {Kind: api.Text, N: -1, S: "a"},
		text(strings.Repeat("x", 25)), text(strings.Repeat("\x00", 25)), text(strings.Repeat("x", 5000)),
		{Kind: -1}, {Kind: 4}, {Kind: 256}, {Kind: 258, N: 7}, {Kind: 259, S: "a"}, {Kind: math.MinInt}, {Kind: math.MaxInt},
	}
}

// wrongIDs are ids that have no key.
func wrongIDs() []int {
	return []int{-1, -2, math.MinInt, math.MinInt + 1, -1 << 40, api.MaxNum + 1, 1 << 41, 1 << 56, math.MaxInt}
}

// edgeIDs are the least and the greatest ids, and those beside which the bytes of a key carry over, rising.
func edgeIDs() []int {
	l := []int{0, 1, 2, 255, 256, 257}
	for _, n := range []int{1 << 16, 1 << 24, 1 << 32, api.MaxNum} {
		l = append(l, n-1, n)
	}
	return l
}

// pair is what an index has, told without pages.
type pair struct {
	v  api.Value
	id int
}

// stands is the order of values: of the right ones all that a kind doesn't use is zero.
func stands(a, b api.Value) int {
	return cmp.Or(cmp.Compare(a.Kind, b.Kind), cmp.Compare(a.N, b.N), strings.Compare(a.S, b.S))
}

func follows(a, b pair) int { return cmp.Or(stands(a.v, b.v), cmp.Compare(a.id, b.id)) }

// model is an index's pairs, by value, then by id.
type model []pair

func (m model) find(v api.Value, id int) (int, bool) {
	return slices.BinarySearchFunc(m, pair{v, id}, follows)
}

func (m *model) add(v api.Value, id int) {
	if i, there := m.find(v, id); !there {
		*m = slices.Insert(*m, i, pair{v, id})
	}
}

func (m *model) cut(v api.Value, id int) {
	if i, there := m.find(v, id); there {
		*m = slices.Delete(*m, i, i+1)
	}
}

// between is the pairs between two bounds, asked of each pair as the chapter says it.
func (m model) between(lo, hi index.Bound) model {
	var l model
	for _, p := range m {
		low := !lo.Has || stands(p.v, lo.V) > 0 || p.v == lo.V && lo.Incl
		high := !hi.Has || stands(p.v, hi.V) < 0 || p.v == hi.V && hi.Incl
		if low && high {
			l = append(l, p)
		}
	}
	return l
}

// first is the least id with a value.
func (m model) first(v api.Value) (int, bool) {
	least, there := 0, false
	for _, p := range m {
		if p.v == v && (!there || p.id < least) {
			least, there = p.id, true
		}
	}
	return least, there
}

func fresh(t *testing.T, quota int) (*arena.Arena, *index.Index) {
	t.Helper()
	a, e := arena.New(quota)
	if e != api.OK {
		t.Fatal(e)
	}
	x, e := index.New(a)
	if e != api.OK || x == nil {
		t.Fatal(x, e)
	}
	return a, x
}

// put adds a pair to an index and to its model.
func put(t *testing.T, x *index.Index, m *model, v api.Value, id int) {
	t.Helper()
	if e := x.Add(v, id); e != api.OK {
		t.Fatal(v, id, e)
	}
	m.add(v, id)
}

// take cuts a pair out of an index and of its model.
func take(t *testing.T, x *index.Index, m *model, v api.Value, id int) {
	t.Helper()
	if e := x.Cut(v, id); e != api.OK {
		t.Fatal(v, id, e)
	}
	m.cut(v, id)
}

// high is an index of a height, with wide texts of even numbers, each with the ids 2 and 4.
func high(t *testing.T, height int) (*arena.Arena, *index.Index, model) {
	t.Helper()
	a, x := fresh(t, api.MaxPages)
	var m model
	for i := 2; x.Height() < height || len(m) < 6; i += 2 {
		put(t, x, &m, wide(i), 4)
		if x.Height() < height || len(m) < 6 {
			put(t, x, &m, wide(i), 2)
		}
	}
	if x.Height() != height {
		t.Fatal(x.Height(), height)
	}
	return a, x, m
}

// held is the bytes of all pages in use.
func held(a *arena.Arena) map[int]string {
	m := map[int]string{}
	for _, n := range a.Pages() {
		b, _ := a.Load(n)
		m[n] = string(b)
	}
	return m
}

func told(x *index.Index, lo, hi index.Bound) model {
	var l model
	x.Each(lo, hi, func(v api.Value, id int) bool {
		l = append(l, pair{v, id})
		return true
	})
	return l
}

func all(x *index.Index) model { return told(x, index.Bound{}, index.Bound{}) }

// bytes is a number's eight bytes, and key a value's key, told anew.
func bytes(n int) string {
	s := ""
	for i := 56; i >= 0; i -= 8 {
		s += string([]byte{byte(n >> i)})
	}
	return s
}

func key(v api.Value) string {
	s := string([]byte{byte(v.Kind)})
	switch v.Kind {
	case api.Bool:
		s += string([]byte{byte(v.N)})
	case api.Int:
		s += bytes(v.N ^ math.MinInt)
	case api.Text:
		s += strings.ReplaceAll(v.S, "\x00", "\x00\xff") + "\x00\x01"
	}
	return s
}

// check holds all that an index tells against a model, and its tree's entries against the pairs' bytes.
func check(t *testing.T, a *arena.Arena, x *index.Index, m model) {
	t.Helper()
	if got := all(x); x.Len() != len(m) || !slices.Equal(got, m) {
		t.Fatalf("%d pairs, %v, not %v", x.Len(), got, m)
	}
	y, i := tree.Open(a, x.Head()), 0
	y.Each("", "", func(s string) bool {
		if i == len(m) || s != key(m[i].v)+bytes(m[i].id) {
			t.Fatalf("the entry %d is %q", i, s)
		}
		i++
		return true
	})
	if i != len(m) || y.Height() != x.Height() || y.Len() != x.Len() || !slices.Equal(y.Pages(), x.Pages()) {
		t.Fatalf("%d entries, %v, %v", i, x.Height(), x.Pages())
	}
}

// alone is check for an index that is alone in its arena, and holds the least id of each value that it has.
func alone(t *testing.T, a *arena.Arena, x *index.Index, m model) {
	t.Helper()
	check(t, a, x, m)
	if !slices.Equal(x.Pages(), a.Pages()) || len(x.Pages()) != a.Used() {
		t.Fatalf("the index's pages %v, in use %v", x.Pages(), a.Pages())
	}
	for i, p := range m {
		if i > 0 && m[i-1].v == p.v {
			continue
		}
		if id, there := x.First(p.v); id != p.id || !there {
			t.Fatalf("First of %v: %d, %v, not %d", p.v, id, there, p.id)
		}
	}
}

// refused holds that a call is refused, and that nothing is done.
func refused(t *testing.T, a *arena.Arena, x *index.Index, want api.Errno, what string, call func() api.Errno) {
	t.Helper()
	was, head, left := held(a), x.Head(), a.Left()
	if e := call(); e != want {
		t.Errorf("%s with %d left, %+v: %v, not %v", what, left, head, e, want)
	}
	if !maps.Equal(was, held(a)) || x.Head() != head || a.Left() != left {
		t.Errorf("%s: it was refused, but something was done", what)
	}
}

func refusedAdd(t *testing.T, a *arena.Arena, x *index.Index, v api.Value, id int, want api.Errno) {
	t.Helper()
	refused(t, a, x, want, "Add", func() api.Errno { return x.Add(v, id) })
}

func refusedCut(t *testing.T, a *arena.Arena, x *index.Index, v api.Value, id int, want api.Errno) {
	t.Helper()
	refused(t, a, x, want, "Cut", func() api.Errno { return x.Cut(v, id) })
}

func TestExample(t *testing.T) {
	a, x := fresh(t, 10)
	for _, p := range []pair{{number(7), 1}, {number(3), 2}, {number(7), 0}} {
		if e := x.Add(p.v, p.id); e != api.OK {
			t.Error(p, e)
		}
	}
	want := model{{number(3), 2}, {number(7), 0}, {number(7), 1}}
	if l := all(x); !slices.Equal(l, want) {
		t.Error(l)
	}
	if id, there := x.First(number(7)); id != 0 || !there {
		t.Error(id, there)
	}
	alone(t, a, x, want)
}

func TestNew(t *testing.T) {
	if x, e := index.New(nil); x != nil || e != api.ErrArg {
		t.Error(x, e)
	}
	for quota := range 3 {
		a, _ := arena.New(quota)
		for a.Left() > 0 {
			x, e := index.New(a)
			if e != api.OK || x.Len() != 0 || x.Height() != 1 || len(x.Pages()) != 1 {
				t.Fatal(x, e)
			}
			check(t, a, x, nil)
		}
		was := held(a)
		if x, e := index.New(a); x != nil || e != api.ErrQuota {
			t.Error(quota, x, e)
		}
		if len(was) != quota || !maps.Equal(was, held(a)) {
			t.Error(quota, "a New that was refused changed something")
		}
	}
}

// TestValuesInOrder: however they were added, values of all kinds stand as the order says, and their ids as numbers.
func TestValuesInOrder(t *testing.T) {
	values, ids := someValues(), edgeIDs()
	if !slices.IsSortedFunc(values, stands) || !slices.IsSorted(ids) {
		t.Fatal("the lists don't rise")
	}
	for _, by := range []int{1, 3, 9, 39} { // none of which has a part in common with how many values or ids there are
		a, x := fresh(t, 100)
		var m, want model
		for i := range len(values) {
			for k := range len(ids) {
				put(t, x, &m, values[i*by%len(values)], ids[k*by%len(ids)])
			}
			alone(t, a, x, m)
		}
		for _, v := range values {
			for _, id := range ids {
				want = append(want, pair{v, id})
			}
		}
		alone(t, a, x, want)
		for len(m) > 0 {
			p := m[by*13%len(m)]
			take(t, x, &m, p.v, p.id)
			refusedCut(t, a, x, p.v, p.id, api.ErrName)
		}
		alone(t, a, x, nil)
	}
}

// TestSeveralIDs: the same value with several ids, and the same id with several values, know nothing of one another.
func TestSeveralIDs(t *testing.T) {
	values, ids := someValues(), edgeIDs()
	for i, v := range values {
		w := values[(i+1)%len(values)]
		a, x := fresh(t, 100)
		var m model
		for k := range ids {
			id := ids[k*5%len(ids)]
			refusedCut(t, a, x, v, id, api.ErrName)
			put(t, x, &m, v, id)
			refusedAdd(t, a, x, v, id, api.ErrThere)
			refusedCut(t, a, x, w, id, api.ErrName)
			put(t, x, &m, w, id)
			refusedAdd(t, a, x, w, id, api.ErrThere)
			alone(t, a, x, m)
		}
		for k := range ids {
			id := ids[k*3%len(ids)]
			take(t, x, &m, v, id)
			refusedCut(t, a, x, v, id, api.ErrName)
			refusedAdd(t, a, x, w, id, api.ErrThere)
			least, there := x.First(v)
			want, has := m.first(v)
			if least != want || there != has {
				t.Errorf("First of %v: %d, %v, not %d, %v", v, least, there, want, has)
			}
			alone(t, a, x, m)
		}
		for _, id := range ids {
			put(t, x, &m, v, id) // what was cut may be there again
			take(t, x, &m, w, id)
		}
		alone(t, a, x, m)
	}
}

// TestWrongPairs: a value or an id that has no key is told ahead of all else, whether there is room or not.
func TestWrongPairs(t *testing.T) {
	for height := 1; height <= 3; height++ {
		a, x, m := high(t, height)
		for _, left := range []int{-1, 0, height, height + 1, 50} {
			a.Limit(a.Used() + left)
			for _, id := range append(wrongIDs(), 2, 3, 4) {
				for _, v := range wrongValues() {
					refusedAdd(t, a, x, v, id, api.ErrArg)
					refusedCut(t, a, x, v, id, api.ErrArg)
				}
			}
			for _, id := range wrongIDs() {
				for _, v := range append(someValues(), m[0].v, m[len(m)-1].v) {
					refusedAdd(t, a, x, v, id, api.ErrArg)
					refusedCut(t, a, x, v, id, api.ErrArg)
				}
			}
		}
		alone(t, a, x, m)
	}
}

// TestWrongBesideRight: wrong values that come near to right ones aren't taken for them, where those are there.
func TestWrongBesideRight(t *testing.T) {
	a, x := fresh(t, 10)
	var m model
	for _, v := range []api.Value{{}, boolean(0), boolean(1), number(0), number(7), text(""), text("a"), text(strings.Repeat("x", 24))} {
		put(t, x, &m, v, 0)
		put(t, x, &m, v, 7)
	}
	for _, v := range wrongValues() {
		for _, id := range []int{0, 7} {
			refusedAdd(t, a, x, v, id, api.ErrArg)
			refusedCut(t, a, x, v, id, api.ErrArg)
		}
		if id, there := x.First(v); id != 0 || there {
			t.Error(v, id, there)
		}
	}
	for _, p := range m {
		for _, id := range []int{p.id - 1<<41, p.id + 1<<41, p.id + 1<<56, p.id + math.MinInt, ^p.id} {
			refusedAdd(t, a, x, p.v, id, api.ErrArg)
			refusedCut(t, a, x, p.v, id, api.ErrArg)
		}
	}
	alone(t, a, x, m)
}

func TestErrThereAndErrName(t *testing.T) {
	t.Parallel()
	for height := 1; height <= 4; height++ {
		a, x, m := high(t, height)
		for _, left := range []int{-1, 0, height, height + 1, 50} {
			a.Limit(a.Used() + left)
			for _, p := range m {
				refusedAdd(t, a, x, p.v, p.id, api.ErrThere)
				for _, id := range []int{p.id - 1, p.id + 1, p.id + 256, api.MaxNum} {
					refusedCut(t, a, x, p.v, id, api.ErrName) // the value is there, with others
				}
				if height > 2 && left != 0 {
					break
				}
			}
			for _, v := range append(someValues(), wide(1), wide(3), wide(5000)) {
				refusedCut(t, a, x, v, 2, api.ErrName)
				refusedCut(t, a, x, v, 4, api.ErrName)
			}
		}
		alone(t, a, x, m)
	}
}

func TestFirst(t *testing.T) {
	for _, n := range []int{0, 3, 40, 400} {
		_, x := fresh(t, api.MaxPages)
		var m model
		for i := range n {
			put(t, x, &m, wide(i*7%n), i*11%9) // of those that come again the least id is neither the first nor the last
			if i%3 == 0 {
				put(t, x, &m, wide(i*7%n), api.MaxNum)
				put(t, x, &m, wide(i*7%n), 300-i%256)
			}
		}
		for i, v := range someValues() {
			if i%2 == 0 {
				put(t, x, &m, v, 90)
			}
			if i%4 == 0 {
				put(t, x, &m, v, 80)
				put(t, x, &m, v, 1<<33)
			}
		}
		values := append(someValues(), wide(n), wide(n+1), text("\x00\x00\x00"))
		for i := range n {
			values = append(values, wide(i))
		}
		for _, v := range values {
			id, there := x.First(v)
			if least, has := m.first(v); id != least || there != has {
				t.Errorf("%d pairs: First of %v: %d, %v, not %d, %v", len(m), v, id, there, least, has)
			}
		}
		for _, v := range wrongValues() {
			if id, there := x.First(v); id != 0 || there {
				t.Error(v, id, there)
			}
		}
	}
}

// TestPagesAreNew: what was answered, and is written over behind it, changes nothing.
func TestPagesAreNew(t *testing.T) {
	a, x, m := high(t, 3)
	l := x.Pages()
	for i := range l {
		l[i] = 0
	}
	alone(t, a, x, m)
}
