package heap_test

import (
	"maps"
	"math"
	"slices"
	"strings"
	"testing"

	"tripwire/api"
	"tripwire/arena"
	"tripwire/heap"
	"tripwire/tree"
)

func boolean(n int) api.Value { return api.Value{Kind: api.Bool, N: n} }

func number(n int) api.Value { return api.Value{Kind: api.Int, N: n} }

func text(s string) api.Value { return api.Value{Kind: api.Text, S: s} }

func row(l ...api.Value) []api.Value { return l }

func one(s string) []api.Value { return row(text(s)) }

// widest is a row of which no other has more bytes; they tell n.
func widest(n int) []api.Value {
	return append(slices.Repeat(one(strings.Repeat("\x00", 24)), 5), text(strings.Repeat("\x00", 23)+string([]byte{byte(n)})))
}

// wide is a row of many bytes, of which n is among the first.
func wide(n int) []api.Value {
	return append(row(number(n)), slices.Repeat(one(strings.Repeat("\x00", 24)), 5)...)
}

// someRows are rows of all sizes, each other than the rest.
func someRows() [][]api.Value {
	return [][]api.Value{
		nil,
		row(api.Value{}),
		slices.Repeat(row(api.Value{}), 6),
		row(boolean(0)), row(boolean(1), boolean(0)),
		row(number(0)), row(number(-1)), row(number(math.MinInt), number(math.MaxInt)),
		one(""), one("a"), one("\x00"), one("\x00\x01"), one("\x00\xff"), one("\xff\xff"),
		one(strings.Repeat("x", 24)), one(strings.Repeat("\x00", 24)), one(strings.Repeat("\xff", 24)),
		row(text(""), text("")), row(text(""), api.Value{}, text("")),
		row(number(1), text("a"), boolean(1), api.Value{}, text("b"), number(2)),
		slices.Repeat(one("\xff"), 6),
		widest(0), widest(255), wide(-1), wide(1 << 50),
	}
}

// wrongRows are rows that have no bytes.
func wrongRows() [][]api.Value {
	l := [][]api.Value{
		slices.Repeat(row(number(1)), 7), slices.Repeat(row(api.Value{}), 7), slices.Repeat(one("x"), 5000),
	}
	for _, v := range []api.Value{
		{N: 1}, {S: "a"}, boolean(2), boolean(-1), {Kind: api.Bool, S: "a"}, {Kind: api.Int, S: "a"}, {Kind: api.Text, N: 1},
		text(strings.Repeat("x", 25)), text(strings.Repeat("x", 5000)), {Kind: 4}, {Kind: -1}, {Kind: 256}, {Kind: math.MinInt}, {Kind: math.MaxInt},
	} {
		for n := 1; n <= 6; n++ {
			for k := range n {
				wrong := slices.Repeat(row(number(3)), n)
				wrong[k] = v
				l = append(l, wrong)
			}
		}
	}
	return l
}

// wrongIDs are ids that have no bytes.
func wrongIDs() []int {
	return []int{-1, -2, math.MinInt, math.MinInt + 1, -1 << 40, api.MaxNum + 1, 1 << 41, 1 << 56, math.MaxInt}
}

// edgeIDs are the least and the greatest ids, and those beside which the bytes of a key carry over.
func edgeIDs() []int {
	l := []int{0, 1, 2, api.MaxNum - 1, api.MaxNum}
	for _, n := range []int{1 << 8, 1 << 16, 1 << 24, 1 << 32} {
		l = append(l, n-1, n, n+1)
	}
	slices.Sort(l)
	return l
}

// model is what a heap has, told without pages.
type model map[int][]api.Value

func (m model) ids() []int { return slices.Sorted(maps.Keys(m)) }

func fresh(t *testing.T, quota int) (*arena.Arena, *heap.Heap) {
	t.Helper()
	a, e := arena.New(quota)
	if e != api.OK {
		t.Fatal(e)
	}
	h, e := heap.New(a)
	if e != api.OK || h == nil {
		t.Fatal(h, e)
	}
	return a, h
}

// fill puts rows, in the order of the ids in l.
func fill(t *testing.T, h *heap.Heap, m model, l []int) {
	t.Helper()
	for _, id := range l {
		if e := h.Put(id, m[id]); e != api.OK {
			t.Fatal(id, e)
		}
	}
}

// wides is a model with n wide rows, from the id 1 on.
func wides(n int) model {
	m := model{}
	for i := range n {
		m[i+1] = wide(i)
	}
	return m
}

// high is a heap of a height, with wide rows of the ids 2, 4 and so on.
func high(t *testing.T, height int) (*arena.Arena, *heap.Heap, model) {
	t.Helper()
	a, h := fresh(t, api.MaxPages)
	m := model{}
	for i := 2; h.Height() < height || len(m) < 3; i += 2 {
		m[i] = wide(i)
		fill(t, h, m, []int{i})
	}
	if h.Height() != height {
		t.Fatal(h.Height(), height)
	}
	return a, h, m
}

// held is the bytes of all pages in use.
func held(a *arena.Arena) map[int]string {
	m := map[int]string{}
	for _, n := range a.Pages() {
		b, _ := a.Load(n)
		m[n] = string(b)
	}
	return m
}

func told(h *heap.Heap, from int) []api.Row {
	var l []api.Row
	h.Each(from, func(r api.Row) bool {
		l = append(l, r)
		return true
	})
	return l
}

// key is the bytes of an id, and sum those of a row, told anew.
func key(id int) string {
	s := ""
	for i := 56; i >= 0; i -= 8 {
		s += string([]byte{byte(id >> i)})
	}
	return s
}

func sum(l []api.Value) string {
	s := ""
	for _, v := range l {
		s += string([]byte{byte(v.Kind)})
		switch v.Kind {
		case api.Bool:
			s += string([]byte{byte(v.N)})
		case api.Int:
			s += key(v.N ^ math.MinInt)
		case api.Text:
			s += strings.ReplaceAll(v.S, "\x00", "\x00\xff") + "\x00\x01"
		}
	}
	return s
}

// check holds all that a heap tells against a model, and its tree's entries against the rows' bytes.
func check(t *testing.T, a *arena.Arena, h *heap.Heap, m model) {
	t.Helper()
	ids, rows := m.ids(), told(h, 0)
	if h.Len() != len(m) || len(rows) != len(m) {
		t.Fatalf("%d rows, Each tells %d, not %d", h.Len(), len(rows), len(m))
	}
	for i, r := range rows {
		if r.ID != ids[i] || !slices.Equal(r.Values, m[r.ID]) {
			t.Fatalf("Each tells %v, not %d with %v", r, ids[i], m[ids[i]])
		}
		if l, e := h.Get(r.ID); e != api.OK || !slices.Equal(l, r.Values) {
			t.Fatalf("Get of %d: %v, %v, not %v", r.ID, l, e, r.Values)
		}
	}
	x, i := tree.Open(a, h.Head()), 0
	x.Each("", "", func(s string) bool {
		if i == len(ids) || s != key(ids[i])+sum(m[ids[i]]) {
			t.Fatalf("the entry %d is %q", i, s)
		}
		i++
		return true
	})
	if i != len(ids) || x.Height() != h.Height() || x.Len() != h.Len() || !slices.Equal(x.Pages(), h.Pages()) {
		t.Fatalf("%d entries, %v, %v", i, h.Height(), h.Pages())
	}
}

// alone is check for a heap that is alone in its arena.
func alone(t *testing.T, a *arena.Arena, h *heap.Heap, m model) {
	t.Helper()
	check(t, a, h, m)
	if !slices.Equal(h.Pages(), a.Pages()) || len(h.Pages()) != a.Used() {
		t.Fatalf("the heap's pages %v, in use %v", h.Pages(), a.Pages())
	}
}

// refused holds that a call is refused, and that nothing is done: not even the pages that come next are others.
func refused(t *testing.T, a *arena.Arena, h *heap.Heap, want api.Errno, what string, call func() api.Errno) {
	t.Helper()
	was, head, left := held(a), h.Head(), a.Left()
	if e := call(); e != want {
		t.Errorf("%s with %d left, %+v: %v, not %v", what, left, head, e, want)
	}
	if !maps.Equal(was, held(a)) || h.Head() != head || a.Left() != left {
		t.Errorf("%s: it was refused, but something was done", what)
	}
}

func refusedPut(t *testing.T, a *arena.Arena, h *heap.Heap, id int, l []api.Value, want api.Errno) {
	t.Helper()
	refused(t, a, h, want, "Put", func() api.Errno { return h.Put(id, l) })
}

func refusedSet(t *testing.T, a *arena.Arena, h *heap.Heap, id int, l []api.Value, want api.Errno) {
	t.Helper()
	refused(t, a, h, want, "Set", func() api.Errno { return h.Set(id, l) })
}

func refusedCut(t *testing.T, a *arena.Arena, h *heap.Heap, id int) {
	t.Helper()
	refused(t, a, h, api.ErrName, "Cut", func() api.Errno { return h.Cut(id) })
	refused(t, a, h, api.ErrName, "Get", func() api.Errno {
		l, e := h.Get(id)
		if l != nil {
			t.Errorf("Get of %d: %v", id, l)
		}
		return e
	})
}

func TestExample(t *testing.T) {
	a, h := fresh(t, 10)
	x, y, z := one("x"), one("y"), one("z")
	fill(t, h, model{2: x, 1: y}, []int{2, 1})
	alone(t, a, h, model{1: y, 2: x})
	if e := h.Set(2, z); e != api.OK {
		t.Error(e)
	}
	if l, e := h.Get(2); e != api.OK || !slices.Equal(l, z) {
		t.Error(l, e)
	}
	alone(t, a, h, model{1: y, 2: z})
}

func TestNew(t *testing.T) {
	if h, e := heap.New(nil); h != nil || e != api.ErrArg {
		t.Error(h, e)
	}
	for quota := range 3 {
		a, _ := arena.New(quota)
		for a.Left() > 0 {
			h, e := heap.New(a)
			if e != api.OK || h.Len() != 0 || h.Height() != 1 || len(h.Pages()) != 1 {
				t.Fatal(h, e)
			}
			check(t, a, h, nil)
		}
		was := held(a)
		if h, e := heap.New(a); h != nil || e != api.ErrQuota {
			t.Error(quota, h, e)
		}
		if len(was) != quota || !maps.Equal(was, held(a)) {
			t.Error(quota, "a New that was refused changed something")
		}
	}
}

// TestRowsOfAllSizes: each row becomes each other one, with neighbours on both sides that stay.
func TestRowsOfAllSizes(t *testing.T) {
	for _, id := range edgeIDs() {
		a, h := fresh(t, 20)
		m := model{}
		for _, n := range edgeIDs() {
			if n != id {
				m[n] = row(number(n))
				fill(t, h, m, []int{n})
			}
		}
		for _, l := range someRows() {
			m[id] = l
			fill(t, h, m, []int{id})
			alone(t, a, h, m)
			for _, k := range someRows() {
				m[id] = k
				if e := h.Set(id, k); e != api.OK {
					t.Fatal(id, k, e)
				}
				check(t, a, h, m)
			}
			if e := h.Cut(id); e != api.OK {
				t.Fatal(id, l, e)
			}
			delete(m, id)
			refusedCut(t, a, h, id)
			alone(t, a, h, m)
		}
	}
}

// TestNoValues: a row of no values is there, whether it was handed in as nil or as an empty list.
func TestNoValues(t *testing.T) {
	for _, l := range [][]api.Value{nil, {}} {
		a, h := fresh(t, 10)
		fill(t, h, model{7: l}, []int{7})
		if k, e := h.Get(7); e != api.OK || len(k) != 0 {
			t.Error(k, e)
		}
		refusedPut(t, a, h, 7, l, api.ErrThere)
		refusedPut(t, a, h, 7, one("a"), api.ErrThere)
		alone(t, a, h, model{7: nil})
		if h.Set(7, one("a")) != api.OK || h.Set(7, l) != api.OK || h.Set(7, l) != api.OK {
			t.Error("Set")
		}
		alone(t, a, h, model{7: nil})
		if h.Cut(7) != api.OK || h.Len() != 0 {
			t.Error("Cut")
		}
		refusedCut(t, a, h, 7)
	}
}

func TestPutErrors(t *testing.T) {
	for height := 1; height <= 3; height++ {
		a, h, m := high(t, height)
		for _, left := range []int{0, height, height + 1, 50} {
			a.Limit(a.Used() + left)
			for _, id := range wrongIDs() {
				refusedPut(t, a, h, id, one("a"), api.ErrArg)
				refusedPut(t, a, h, id, nil, api.ErrArg)
				refusedPut(t, a, h, id, one(strings.Repeat("x", 25)), api.ErrArg)
			}
			for _, l := range wrongRows() {
				refusedPut(t, a, h, 2, l, api.ErrArg) // it is there
				refusedPut(t, a, h, 3, l, api.ErrArg) // it isn't
			}
			for id := range m {
				refusedPut(t, a, h, id, one("a"), api.ErrThere)
				refusedPut(t, a, h, id, m[id], api.ErrThere)
				refusedPut(t, a, h, id, nil, api.ErrThere)
			}
		}
		alone(t, a, h, m)
	}
}

func TestSetErrors(t *testing.T) {
	for height := 1; height <= 3; height++ {
		a, h, m := high(t, height)
		for _, left := range []int{0, height, height + 1, 50} {
			a.Limit(a.Used() + left)
			for _, id := range wrongIDs() {
				refusedSet(t, a, h, id, one("a"), api.ErrArg)
				refusedSet(t, a, h, id, nil, api.ErrArg)
				refusedSet(t, a, h, id, one(strings.Repeat("x", 25)), api.ErrArg)
			}
			for _, l := range wrongRows() {
				refusedSet(t, a, h, 2, l, api.ErrArg) // it is there
				refusedSet(t, a, h, 3, l, api.ErrArg) // it isn't
			}
			for _, id := range []int{0, 1, 3, 5, 2*len(m) + 1, 2*len(m) + 2, 2 + 1<<8, api.MaxNum} {
				refusedSet(t, a, h, id, one("a"), api.ErrName)
				refusedSet(t, a, h, id, nil, api.ErrName)
			}
		}
		alone(t, a, h, m)
	}
}

func TestCutAndGetErrors(t *testing.T) {
	for height := 1; height <= 3; height++ {
		a, h, m := high(t, height)
		for _, quota := range []int{0, a.Used(), a.Used() + height, api.MaxPages} {
			a.Limit(quota)
			for _, id := range append(wrongIDs(), 0, 1, 3, 2*len(m)+1, 2*len(m)+2, 2+1<<8, api.MaxNum) {
				refusedCut(t, a, h, id)
			}
		}
		alone(t, a, h, m)
	}
}

// TestEdgeIDs: an id's bytes carry over beside its neighbour's; none of them is taken for another one.
func TestEdgeIDs(t *testing.T) {
	a, h := fresh(t, 10)
	m := model{}
	for i, id := range edgeIDs() {
		refusedCut(t, a, h, id)
		refusedSet(t, a, h, id, nil, api.ErrName)
		m[id] = row(number(i))
		fill(t, h, m, []int{id})
		alone(t, a, h, m)
	}
	for i, id := range edgeIDs() {
		if e := h.Cut(id); e != api.OK {
			t.Fatal(id, e)
		}
		delete(m, id)
		refusedCut(t, a, h, id)
		alone(t, a, h, m)
		m[id] = one(strings.Repeat("y", i))
		fill(t, h, m, []int{id})
		alone(t, a, h, m)
	}
}
