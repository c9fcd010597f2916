package alpha_test

import (
	"fmt"
	"math"
	"slices"
	"testing"

	"tripwire/alpha"
	"tripwire/api"
	"tripwire/ast"
	"tripwire/check"
	"tripwire/parse"
	"tripwire/pred"
)

func truth(n int) api.Value { return api.Value{Kind: api.Bool, N: n} }

func number(n int) api.Value { return api.Value{Kind: api.Int, N: n} }

func text(s string) api.Value { return api.Value{Kind: api.Text, S: s} }

// row is of t; the columns that aren't told are NULL.
func row(l ...api.Value) []api.Value { return append(l, make([]api.Value, 3-len(l))...) }

// of is a row of t in which a is n.
func of(n int) []api.Value { return row(number(n)) }

func at(id int, values []api.Value) api.Row { return api.Row{ID: id, Values: values} }

// nodes is what a text asks of t (a INT, b TEXT, c BOOL), taken apart.
func nodes(s string) []check.Node {
	t := check.Var{Name: "t", Cols: []api.Column{{Name: "a", Type: api.Int}, {Name: "b", Type: api.Text}, {Name: "c", Type: api.Bool}}}
	e, x := parse.Expr(s)
	l, code := check.Cond([]check.Var{t}, []ast.Expr{e})
	if x != (api.Fault{}) || code != api.OK {
		panic(fmt.Sprint(s, x, code))
	}
	return l
}

func cond(s string) pred.Cond { return pred.Of(nodes(s)) }

// short is how something is told in a message.
func short(x any) string {
	s := fmt.Sprintf("%+v", x)
	if len(s) <= 400 {
		return s
	}
	return s[:400] + ".. (long)"
}

// wantIDs holds the memory of a key, that is there, against ids.
func wantIDs(t *testing.T, s *alpha.Set, key int, ids ...int) {
	t.Helper()
	if l, there := s.IDs(key); !there || !slices.Equal(l, ids) {
		t.Errorf("IDs(%d): %v, %v, not %v", key, l, there, ids)
	}
}

func wantNone(t *testing.T, s *alpha.Set, keys ...int) {
	t.Helper()
	for _, key := range keys {
		if l, there := s.IDs(key); there || l != nil {
			t.Errorf("IDs(%d): %v, %v, though it isn't there", key, l, there)
		}
	}
}

func wantKeys(t *testing.T, s *alpha.Set, keys ...int) {
	t.Helper()
	if l := s.Keys(); !slices.Equal(l, keys) {
		t.Errorf("Keys: %v, not %v", l, keys)
	}
}

func wantOK(t *testing.T, l ...api.Errno) {
	t.Helper()
	for i, e := range l {
		if e != api.OK {
			t.Errorf("call %d: %d", i, e)
		}
	}
}

// with is a set of one memory, of the key 0.
func with(t *testing.T, c string, rows ...api.Row) *alpha.Set {
	t.Helper()
	s := alpha.New()
	wantOK(t, s.Add(0, cond(c), rows))
	return s
}

func TestExample(t *testing.T) {
	s := with(t, "a > 3", at(1, of(5)), at(2, of(1)))
	wantIDs(t, s, 0, 1)
	s.Note(2, of(1), of(9))
	wantIDs(t, s, 0, 1, 2)
}

func TestAddedRows(t *testing.T) {
	nothing := []api.Row{at(3, nil), at(4, []api.Value{})}
	all := []api.Row{at(math.MaxInt, of(5)), at(0, of(4)), at(math.MinInt, of(9)), at(-1, of(6)), at(1<<32, of(5)), at(7, of(7)), at(-1<<32, of(5))}
	for _, x := range []struct {
		c    string
		rows []api.Row
		ids  []int
	}{
		{"a > 3", nil, nil},
		{"a > 3", []api.Row{at(1, of(5))}, []int{1}},
		{"a > 3", []api.Row{at(1, of(3))}, nil},
		{"a > 3", []api.Row{at(1, row())}, nil},
		{"a IS NULL", []api.Row{at(1, row()), at(2, of(1))}, []int{1}},
		{"a > 3", []api.Row{at(9, of(4)), at(5, of(3)), at(2, of(5)), at(7, of(0)), at(4, of(8))}, []int{2, 4, 9}},
		{"a > 3", all, []int{math.MinInt, -1 << 32, -1, 0, 7, 1 << 32, math.MaxInt}},
		{"a > 4", all, []int{math.MinInt, -1 << 32, -1, 7, 1 << 32, math.MaxInt}},
		{"a > 9", all, nil},
		{"a > 3", nothing, nil},
		{"a IS NULL", nothing, nil},
		{"TRUE", nothing, []int{3, 4}}, // it asks for no value
		{"FALSE", nothing, nil},
		{"a > 3", []api.Row{at(1, of(5)), at(1, of(5))}, []int{1}},
		{"a > 3", []api.Row{at(1, of(5)), at(1, of(1))}, []int{1}},
		{"a > 3", []api.Row{at(1, of(1)), at(1, of(5))}, []int{1}},
		{"a > 3", []api.Row{at(1, of(1)), at(1, of(2))}, nil},
		{"b = 'x' AND c", []api.Row{at(1, row(number(1), text("x"), truth(1))), at(2, row(number(1), text("x"), truth(0))), at(3, row(number(1), text("y"), truth(1)))}, []int{1}},
		{"a * 9223372036854775807 > 0", []api.Row{at(1, of(1)), at(2, of(2)), at(3, of(0))}, []int{1}}, // of 2 it can't be reckoned
		{"a > 3", []api.Row{at(1, []api.Value{number(5)}), at(2, append(of(5), of(5)...))}, []int{1, 2}},
	} {
		s := with(t, x.c, x.rows...)
		wantIDs(t, s, 0, x.ids...)
		wantKeys(t, s, 0)
	}
}

// A condition without tests and nodes is met by whatever there is.
func TestConditionThatAsksNothing(t *testing.T) {
	s := alpha.New()
	wantOK(t, s.Add(1, pred.Cond{}, []api.Row{at(5, of(1)), at(6, nil)}))
	wantIDs(t, s, 1, 5, 6)
	s.Note(7, nil, row())
	s.Note(8, row(), nil)
	s.Note(5, of(1), nil)
	s.Note(6, nil, nil)
	s.Note(9, []api.Value{}, []api.Value{})
	wantIDs(t, s, 1, 6, 7)
}

// What is refused leaves the memory that is there, with its condition and its ids.
func TestAddOfAKeyThatIsThere(t *testing.T) {
	s := with(t, "a > 3", at(1, of(5)), at(2, of(1)))
	for _, c := range []string{"a < 3", "a > 3", "TRUE", "FALSE"} {
		for _, rows := range [][]api.Row{nil, {at(1, of(1))}, {at(2, of(1)), at(3, of(5))}} {
			if e := s.Add(0, cond(c), rows); e != api.ErrThere {
				t.Error(c, e)
			}
			wantIDs(t, s, 0, 1)
			wantKeys(t, s, 0)
		}
	}
	s.Note(8, nil, of(1))
	s.Note(9, nil, of(4))
	wantIDs(t, s, 0, 1, 9)
	wantOK(t, s.Cut(0))
	if e := s.Cut(0); e != api.ErrName {
		t.Error(e)
	}
	wantKeys(t, s)
}

func TestKeys(t *testing.T) {
	s := alpha.New()
	wantKeys(t, s)
	keys := []int{7, -3, math.MaxInt, 0, 12, -1, math.MinInt, 1 << 32, 3, 2, -1 << 32, 1<<32 + 3, 10, 9, 100}
	for i, key := range keys {
		wantNone(t, s, keys[i:]...)
		wantOK(t, s.Add(key, cond("a > 3"), []api.Row{at(i, of(5))}))
		wantKeys(t, s, slices.Sorted(slices.Values(keys[:i+1]))...)
		for k, there := range keys[:i+1] {
			wantIDs(t, s, there, k)
		}
		wantNone(t, s, 1, -7, math.MaxInt-1, math.MinInt+1)
	}
	for i, key := range keys {
		for _, none := range append(slices.Clone(keys[:i]), 1, -7) {
			if e := s.Cut(none); e != api.ErrName {
				t.Error(none, e)
			}
		}
		wantOK(t, s.Cut(key))
		wantNone(t, s, keys[:i+1]...)
		wantKeys(t, s, slices.Sorted(slices.Values(keys[i+1:]))...)
		for k, there := range keys[i+1:] {
			wantIDs(t, s, there, i+1+k)
		}
	}
}

// Behind a Cut a key has nothing of what it had: neither ids nor the condition.
func TestKeyThatComesAgain(t *testing.T) {
	s := with(t, "a > 3", at(1, of(5)), at(2, of(1)))
	wantOK(t, s.Add(1, cond("a > 3"), []api.Row{at(1, of(5))}), s.Cut(0))
	s.Note(3, nil, of(7))
	wantNone(t, s, 0)
	wantKeys(t, s, 1)
	wantOK(t, s.Add(0, cond("a < 3"), []api.Row{at(1, of(5)), at(2, of(1))}))
	wantIDs(t, s, 0, 2)
	s.Note(4, nil, of(9))
	s.Note(5, nil, of(0))
	s.Note(2, of(1), of(9))
	wantIDs(t, s, 0, 5)
	wantIDs(t, s, 1, 1, 2, 3, 4)
	wantOK(t, s.Cut(0), s.Add(0, cond("a < 3"), nil))
	wantIDs(t, s, 0)
}

func TestEmptyMemoryIsThere(t *testing.T) {
	s := with(t, "a > 3")
	wantIDs(t, s, 0)
	wantNone(t, s, 1, -1)
	s.Note(1, nil, of(5))
	s.Note(1, of(5), nil)
	wantIDs(t, s, 0)
	wantKeys(t, s, 0)
	if e := s.Add(0, cond("a > 3"), nil); e != api.ErrThere {
		t.Error(e)
	}
	wantOK(t, s.Cut(0))
	wantNone(t, s, 0, 1)
}

// Each case of was and is, of an id that the memory has and of one that it hasn't, beside ids that it has all along.
func TestNoteOneByOne(t *testing.T) {
	meets, fails := of(5), of(1)
	for _, x := range []struct {
		was, is     []api.Value
		having, not bool // is the id there behind it, if it was, and if it wasn't
	}{
		{nil, nil, true, false},
		{nil, fails, true, false},
		{nil, meets, true, true},
		{fails, nil, true, false},
		{fails, fails, true, false},
		{fails, meets, true, true},
		{meets, nil, false, false},
		{meets, fails, false, false},
		{meets, meets, true, true},
		{meets, of(4), true, true},
		{fails, of(3), true, false},
		{[]api.Value{}, []api.Value{}, true, false},
		{[]api.Value{}, meets, true, true},
		{meets, []api.Value{}, false, false},
	} {
		for _, id := range []int{7, 0, -7, math.MinInt, math.MaxInt} {
			for _, had := range []bool{true, false} {
				rows := []api.Row{at(6, meets), at(-8, meets), at(8, meets)}
				if had {
					rows = append(rows, at(id, meets))
				}
				s := with(t, "a > 3", rows...)
				want := []int{-8, 6, 8}
				if had && x.having || !had && x.not {
					want = append(want, id)
				}
				slices.Sort(want)
				for range 2 { // the same Note once more changes nothing any more
					s.Note(id, x.was, x.is)
					if l, there := s.IDs(0); !there || !slices.Equal(l, want) {
						t.Errorf("Note(%d, %v, %v), had %v: %v, not %v", id, x.was, x.is, had, l, want)
					}
				}
			}
		}
	}
}

// A Note looks at each memory by that memory's own condition.
func TestNoteTouchesSomeMemories(t *testing.T) {
	s := alpha.New()
	for key, c := range []string{"a > 3", "a > 4", "a = 5", "a IS NULL", "TRUE", "a < 0", "b = 'x'", "a > 3", "a * 9223372036854775807 > 0"} {
		wantOK(t, s.Add(key, cond(c), []api.Row{at(1, of(5))}))
	}
	want := func(s *alpha.Set, has ...int) {
		t.Helper()
		for key := range 9 {
			l, there := s.IDs(key)
			one := key == 0 || key == 1 || key == 2 || key == 4 || key == 7 // that the row 1 meets
			if !there || slices.Contains(l, 2) != slices.Contains(has, key) || slices.Contains(l, 1) != one || len(l) > 2 {
				t.Error(key, l, there, has)
			}
		}
	}
	want(s)
	s.Note(2, nil, of(4)) // some
	want(s, 0, 4, 7)
	s.Note(2, of(4), row(number(5), text("x")))
	want(s, 0, 1, 2, 4, 6, 7)
	s.Note(2, row(number(5), text("x")), row())
	want(s, 3, 4)
	s.Note(2, row(), of(1))
	want(s, 4, 8)
	s.Note(2, of(1), of(-1))
	want(s, 4, 5)
	s.Note(2, of(-1), nil)
	want(s)
	s.Note(2, nil, nil) // none
	want(s)
	s.Note(2, of(2), []api.Value{})
	want(s)
}

func TestNoteTouchesAllOrNone(t *testing.T) {
	s := alpha.New()
	var all []int
	for key := -20; key < 20; key++ {
		wantOK(t, s.Add(key, cond(fmt.Sprintf("a > %d", key+20)), nil))
		all = append(all, key)
	}
	for _, x := range []struct{ n, memories int }{{100, 40}, {0, 0}, {1, 1}, {20, 20}, {40, 40}, {-5, 0}} {
		s.Note(9, nil, of(x.n))
		for key := -20; key < 20; key++ {
			if key < x.memories-20 {
				wantIDs(t, s, key, 9)
			} else {
				wantIDs(t, s, key)
			}
		}
		s.Note(9, of(x.n), nil)
	}
	wantKeys(t, s, all...)
}

// Of an id that no row had, what was is taken as it is told.
func TestNoteOfIDsThatNoRowHad(t *testing.T) {
	s := with(t, "a > 3", at(1, of(5)))
	s.Note(2, of(5), nil)
	s.Note(-3, of(5), of(1))
	s.Note(4, of(1), nil)
	wantIDs(t, s, 0, 1)
	s.Note(5, of(1), of(4))
	s.Note(-6, of(5), of(4))
	s.Note(math.MinInt, nil, of(4))
	wantIDs(t, s, 0, math.MinInt, -6, 1, 5)
	s.Note(1, of(1), of(2)) // it was told wrong, so it is in it still
	s.Note(5, nil, of(2))
	wantIDs(t, s, 0, math.MinInt, -6, 1, 5)
}

func TestNoteWithoutMemories(t *testing.T) {
	s := alpha.New()
	s.Note(1, nil, of(5))
	wantKeys(t, s)
	wantNone(t, s, 0, 1)
	wantOK(t, s.Add(0, cond("a > 3"), nil)) // it has what it is given, not what was noted ahead
	wantIDs(t, s, 0)
}

func TestNilSet(t *testing.T) {
	var s *alpha.Set
	for range 2 {
		for _, key := range []int{0, 1, -1} {
			for _, c := range []pred.Cond{{}, cond("a > 3"), {Tests: []pred.Test{{Col: -1}}}} {
				for _, rows := range [][]api.Row{nil, {at(1, of(5))}} {
					if e := s.Add(key, c, rows); e != api.ErrArg {
						t.Error("Add", e)
					}
				}
			}
			if e := s.Cut(key); e != api.ErrArg {
				t.Error("Cut", e)
			}
			s.Note(key, nil, of(5))
			s.Note(key, of(5), nil)
			wantNone(t, s, key)
		}
		if l := s.Keys(); l != nil {
			t.Error("Keys", l)
		}
	}
}

// No sentence names the zero Set: it has no memories.
func TestZeroSet(t *testing.T) {
	var s alpha.Set
	s.Note(1, of(5), of(6))
	if e := s.Cut(0); e != api.ErrName || s.Keys() != nil {
		t.Error(e, s.Keys())
	}
	wantNone(t, &s, 0)
	wantOK(t, s.Add(0, cond("a > 3"), []api.Row{at(1, of(5))}), s.Add(1, cond("a < 3"), nil))
	s.Note(2, nil, of(1))
	wantIDs(t, &s, 0, 1)
	wantIDs(t, &s, 1, 2)
}

// One Set has nothing of another one.
func TestSetsAreApart(t *testing.T) {
	s, u := with(t, "a > 3", at(1, of(5))), alpha.New()
	wantNone(t, u, 0)
	wantOK(t, u.Add(0, cond("a < 3"), []api.Row{at(2, of(1))}))
	s.Note(3, nil, of(7))
	u.Note(4, nil, of(0))
	wantIDs(t, s, 0, 1, 3)
	wantIDs(t, u, 0, 2, 4)
	wantOK(t, s.Cut(0))
	wantIDs(t, u, 0, 2, 4)
	wantKeys(t, s)
	wantKeys(t, alpha.New())
}
