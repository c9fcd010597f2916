package index_test

import (
	"slices"
	"testing"

	"tripwire/api"
	"tripwire/index"
)

// kinds are the four bounds of a value: none twice, whatever its Incl is, and the value, Incl or not.
func kinds(v api.Value) []index.Bound {
	return []index.Bound{{V: v}, {V: v, Incl: true}, {Has: true, V: v}, {Has: true, V: v, Incl: true}}
}

// mixed is an index with every second one of some values, each with up to three ids, and n wide texts.
func mixed(t *testing.T, n int) (*index.Index, model) {
	t.Helper()
	_, x := fresh(t, api.MaxPages)
	var m model
	for i, v := range someValues() {
		if i%2 == 1 {
			continue
		}
		put(t, x, &m, v, 9)
		if i%3 != 0 {
			put(t, x, &m, v, 0)
			put(t, x, &m, v, api.MaxNum)
		}
	}
	for i := range n {
		put(t, x, &m, wide(3*i+2), i)
	}
	return x, m
}

// sizes are numbers of wide texts that make indexes of few pages and of many.
func sizes() []int { return []int{0, 150} }

// TestEachBounds: all sixteen kinds of two bounds, with values that are there and that aren't, in every order.
func TestEachBounds(t *testing.T) {
	height := 0
	for _, n := range sizes() {
		x, m := mixed(t, n)
		height = max(height, x.Height())
		values := append(someValues(), wide(0), wide(2), wide(3), wide(n), wide(3*n-1), wide(3*n))
		for _, v := range values {
			for _, w := range values {
				for _, lo := range kinds(v) {
					for _, hi := range kinds(w) {
						if n > 0 && (!lo.Has || !hi.Has) && v != w {
							continue // of the other value nothing is seen
						}
						if got, want := told(x, lo, hi), m.between(lo, hi); !slices.Equal(got, want) {
							t.Fatalf("%+v to %+v: %v, not %v", lo, hi, got, want)
						}
					}
				}
			}
		}
	}
	if height < 3 {
		t.Error("the indexes aren't high:", height)
	}
}

// TestEachOfOneValue: where both bounds are one value, its pairs are told only if both are Incl.
func TestEachOfOneValue(t *testing.T) {
	for _, n := range sizes() {
		x, m := mixed(t, n)
		for _, p := range m {
			in, out := index.Bound{Has: true, Incl: true, V: p.v}, index.Bound{Has: true, V: p.v}
			for i, l := range []model{told(x, in, out), told(x, out, in), told(x, out, out)} {
				if l != nil {
					t.Error(p, i, l)
				}
			}
			l := told(x, in, in)
			if len(l) == 0 || !slices.Contains(l, p) || slices.ContainsFunc(l, func(q pair) bool { return q.v != p.v }) {
				t.Error(p, l)
			}
		}
	}
}

// TestEachOfShortIndexes: every set of few values, with all bounds of them.
func TestEachOfShortIndexes(t *testing.T) {
	values := []api.Value{{}, boolean(1), number(-1), number(0), text(""), text("a"), text("a\x00"), text("\xff")}
	for set := range 1 << len(values) {
		_, x := fresh(t, 10)
		var m model
		for i, v := range values {
			if set>>i&1 == 1 {
				put(t, x, &m, v, i%3)
				put(t, x, &m, v, api.MaxNum)
			}
		}
		for i, v := range values {
			w := values[(i+set)%len(values)]
			for _, lo := range kinds(v) {
				for _, hi := range kinds(w) {
					if got, want := told(x, lo, hi), m.between(lo, hi); !slices.Equal(got, want) {
						t.Fatalf("%v, %+v to %+v: %v, not %v", m, lo, hi, got, want)
					}
				}
			}
		}
	}
}

// TestEachOfWrongBounds: a bound that there is, whose value isn't right, lets nothing be told; of one that there isn't nobody asks the value.
func TestEachOfWrongBounds(t *testing.T) {
	for _, n := range sizes() {
		x, m := mixed(t, n)
		others := []index.Bound{{}}
		for _, v := range append(someValues(), wrongValues()...) {
			others = append(others, kinds(v)...)
		}
		for _, v := range wrongValues() {
			for i, b := range kinds(v) {
				if i < 2 {
					if l := told(x, b, b); !slices.Equal(l, m) {
						t.Errorf("%+v: %v", b, l)
					}
					in := index.Bound{Has: true, Incl: true, V: number(0)}
					if !slices.Equal(told(x, b, in), m.between(index.Bound{}, in)) || !slices.Equal(told(x, in, b), m.between(in, index.Bound{})) {
						t.Errorf("%+v beside a right one", b)
					}
					continue
				}
				for _, other := range others {
					if told(x, b, other) != nil || told(x, other, b) != nil {
						t.Errorf("%+v and %+v: something is told", b, other)
					}
				}
			}
		}
	}
}

// TestEachEnds: f is called no more, once it answered false, be it at the first, a later or the last pair.
func TestEachEnds(t *testing.T) {
	for _, n := range sizes() {
		x, m := mixed(t, n)
		for _, lo := range append(kinds(number(-1)), kinds(text("a"))...) {
			for _, hi := range append(kinds(text("ab")), kinds(text("\xff\xff"))...) {
				want := m.between(lo, hi)
				for last := range want {
					var got model
					x.Each(lo, hi, func(v api.Value, id int) bool {
						got = append(got, pair{v, id})
						return len(got) <= last
					})
					if !slices.Equal(got, want[:last+1]) {
						t.Fatalf("%+v to %+v, %d: %v", lo, hi, last, got)
					}
				}
			}
		}
	}
}

func TestEachOfNoFunction(t *testing.T) {
	x, m := mixed(t, 30)
	for _, v := range append(someValues(), wrongValues()...) {
		for _, b := range kinds(v) {
			x.Each(b, b, nil)
			x.Each(b, index.Bound{}, nil)
			x.Each(index.Bound{}, b, nil)
		}
	}
	if !slices.Equal(all(x), m) {
		t.Error("pairs are gone")
	}
}

// raised is what f raises.
func raised(f func()) (r any) {
	defer func() { r = recover() }()
	f()
	return nil
}

// TestEachLetsThrough: what a function that is handed in raises isn't met here, be it a stop or another panic.
func TestEachLetsThrough(t *testing.T) {
	x, m := mixed(t, 30)
	for _, what := range []any{"a panic", api.Fault{Code: api.ErrWork, At: 3}} {
		for stop := range len(m) {
			n := 0
			r := raised(func() {
				x.Each(index.Bound{}, index.Bound{}, func(api.Value, int) bool {
					if n == stop {
						panic(what)
					}
					n++
					return true
				})
			})
			if r != what || n != stop {
				t.Errorf("%v behind %d pairs, not %v behind %d", r, n, what, stop)
			}
		}
	}
	if !slices.Equal(all(x), m) || x.Add(number(5), 5) != api.OK {
		t.Error("the index doesn't go on")
	}
}

// TestEachWithin: one walk may be done within another one, and the index be asked.
func TestEachWithin(t *testing.T) {
	x, m := mixed(t, 30)
	i := 0
	x.Each(index.Bound{}, index.Bound{}, func(v api.Value, id int) bool {
		from := index.Bound{Has: true, Incl: true, V: v}
		if !slices.Equal(told(x, from, index.Bound{}), m.between(from, index.Bound{})) {
			t.Error("within", v, id)
		}
		least, there := x.First(v)
		if want, has := m.first(v); least != want || there != has || x.Len() != len(m) || m[i] != (pair{v, id}) {
			t.Error(v, id, least, there)
		}
		i++
		return true
	})
	if i != len(m) {
		t.Error(i)
	}
}

// TestEachWhileItChanges: what is told of an index that f itself changes nobody says; but the walk ends, and each change is done.
func TestEachWhileItChanges(t *testing.T) {
	for round, change := range []func(x *index.Index, m *model, n int){
		func(x *index.Index, m *model, n int) { put(t, x, m, wide(20000+n), 1) },
		func(x *index.Index, m *model, n int) { put(t, x, m, text(""), 100+n) },
		func(x *index.Index, m *model, n int) { take(t, x, m, (*m)[0].v, (*m)[0].id) },
		func(x *index.Index, m *model, n int) { take(t, x, m, (*m)[len(*m)-1].v, (*m)[len(*m)-1].id) },
		func(x *index.Index, m *model, n int) {
			x.Drop()
			*m = nil
		},
	} {
		x, m := mixed(t, 150)
		n := 0
		x.Each(index.Bound{}, index.Bound{}, func(api.Value, int) bool {
			if n++; len(m) > 0 {
				change(x, &m, n)
			}
			return true
		})
		if n == 0 || !slices.Equal(all(x), m) {
			t.Error(round, n, "a change wasn't done")
		}
	}
}
