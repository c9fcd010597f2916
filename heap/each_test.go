package heap_test

import (
	"math"
	"slices"
	"testing"

	"tripwire/api"
	"tripwire/heap"
)

// spread is a heap with n wide rows at ids that lie apart, and three others.
func spread(t *testing.T, n int) (*heap.Heap, model) {
	t.Helper()
	_, h := fresh(t, api.MaxPages)
	m := model{0: one("least"), api.MaxNum: one("greatest"), 1 << 20: nil}
	for i := range n {
		m[3+5*i] = wide(i)
	}
	fill(t, h, m, m.ids())
	return h, m
}

// sizes are numbers of rows that make heaps of one page and of many.
func sizes() []int { return []int{0, 1, 2, 5, 40, 120} }

func TestEachFrom(t *testing.T) {
	height := 0
	for _, n := range sizes() {
		h, m := spread(t, n)
		height = max(height, h.Height())
		froms := append(wrongIDs(), edgeIDs()...)
		for i := range 5*n + 10 {
			froms = append(froms, i)
		}
		for _, from := range froms {
			want := slices.DeleteFunc(m.ids(), func(id int) bool { return id < from })
			got := told(h, from)
			if len(got) != len(want) {
				t.Fatalf("%d rows, from %d: %d, not %d", n, from, len(got), len(want))
			}
			for i, r := range got {
				if r.ID != want[i] || !slices.Equal(r.Values, m[r.ID]) {
					t.Fatalf("%d rows, from %d: %v, not %d", n, from, r, want[i])
				}
			}
		}
	}
	if height < 3 {
		t.Error("the heaps aren't high:", height)
	}
}

func TestEachEdges(t *testing.T) {
	h, m := spread(t, 30)
	if len(told(h, math.MinInt)) != len(m) || len(told(h, -1)) != len(m) {
		t.Error("from below 0")
	}
	if l := told(h, api.MaxNum); len(l) != 1 || l[0].ID != api.MaxNum {
		t.Error("from the greatest id:", l)
	}
	if told(h, api.MaxNum+1) != nil || told(h, math.MaxInt) != nil {
		t.Error("from above all")
	}
}

// TestEachEnds: f is called no more, once it answered false.
func TestEachEnds(t *testing.T) {
	for _, n := range sizes() {
		h, m := spread(t, n)
		ids := m.ids()
		for first, from := range ids {
			for last := first; last < len(ids); last++ {
				var got []int
				h.Each(from, func(r api.Row) bool {
					got = append(got, r.ID)
					return r.ID != ids[last]
				})
				if !slices.Equal(got, ids[first:last+1]) {
					t.Fatalf("%d rows, from %d to %d: %v", n, from, ids[last], got)
				}
				if n > 40 && last > first+3 && last < len(ids)-3 {
					last += 7
				}
			}
		}
	}
}

func TestEachOfNoFunction(t *testing.T) {
	h, m := spread(t, 30)
	for _, from := range append(wrongIDs(), edgeIDs()...) {
		h.Each(from, nil)
	}
	if len(told(h, 0)) != len(m) {
		t.Error("rows are gone")
	}
}

// raised is what f raises.
func raised(f func()) (r any) {
	defer func() { r = recover() }()
	f()
	return nil
}

// TestEachLetsThrough: what a function that is handed in raises isn't met here.
func TestEachLetsThrough(t *testing.T) {
	h, m := spread(t, 30)
	for _, x := range []any{"a panic", api.Fault{Code: api.ErrWork, At: 3}} {
		for stop := range len(m) {
			n := 0
			r := raised(func() {
				h.Each(0, func(api.Row) bool {
					if n == stop {
						panic(x)
					}
					n++
					return true
				})
			})
			if r != x || n != stop {
				t.Errorf("%v behind %d rows, not %v behind %d", r, n, x, stop)
			}
		}
	}
	if len(told(h, 0)) != len(m) || h.Put(1, nil) != api.OK {
		t.Error("the heap doesn't go on")
	}
}

// TestEachWithin: one walk may be done within another one, and rows may be asked for.
func TestEachWithin(t *testing.T) {
	h, m := spread(t, 30)
	ids := m.ids()
	i := 0
	h.Each(0, func(r api.Row) bool {
		if l, e := h.Get(ids[len(ids)-1-i]); e != api.OK || !slices.Equal(l, m[ids[len(ids)-1-i]]) {
			t.Error(l, e)
		}
		if l := told(h, r.ID); len(l) != len(ids)-i || r.ID != ids[i] {
			t.Error(r.ID, len(l))
		}
		i++
		return true
	})
	if i != len(ids) {
		t.Error(i)
	}
}
