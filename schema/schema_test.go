package schema_test

import (
	"math"
	"slices"
	"strings"
	"testing"

	"tripwire/api"
	"tripwire/schema"
)

const (
	letters = "abcdefghijklmnopqrstuvwxyz"
	others  = letters + "0123456789_"
)

func wantName(t *testing.T, s string, want bool) {
	t.Helper()
	if schema.Name(s) != want {
		t.Errorf("Name of %q (%d bytes) isn't %v", s, len(s), want)
	}
}

func TestNameBySize(t *testing.T) {
	wantName(t, "", false)
	for n := 1; n <= 40; n++ {
		for _, s := range []string{"a", "z", "m"} {
			wantName(t, strings.Repeat(s, n), n <= 16)
		}
		for _, s := range []string{"0", "9", "_"} {
			wantName(t, "a"+strings.Repeat(s, n), n+1 <= 16)
			wantName(t, strings.Repeat(s, n), false)
		}
	}
	wantName(t, "abcdefghijklmnop", true)
	wantName(t, "abcdefghijklmnopq", false)
	wantName(t, strings.Repeat("a", 16+256), false)
	wantName(t, strings.Repeat("a", 1<<16+1), false)
}

func TestNameByEachByte(t *testing.T) {
	for c := range 256 {
		s := string([]byte{byte(c)})
		first, later := strings.Contains(letters, s), strings.Contains(others, s)
		wantName(t, s, first)
		wantName(t, s+"b", first)
		wantName(t, s+"_0", first)
		wantName(t, s+strings.Repeat("b", api.MaxName-1), first)
		wantName(t, s+strings.Repeat("b", api.MaxName), false)
		for k := 1; k < api.MaxName; k++ {
			ahead := "b" + strings.Repeat("_", k-1)
			wantName(t, ahead+s, later)
			wantName(t, ahead+s+strings.Repeat("b", api.MaxName-1-k), later)
		}
	}
}

func TestNameOneByOne(t *testing.T) {
	for _, s := range []string{"a", "z", "a0", "a9", "a_", "a__", "z_9", "order", "null", "a1_b", "a_1", "t0123456789"} {
		wantName(t, s, true)
	}
	for _, s := range []string{"A", "Z", "0", "9", "_", "_a", "1a", "aB", "Ab", "aZ", "a-b", "a b", " a", "a ", "a.b", "a'",
		"a`", "`a", "{", "a{", "a/", "a:", "a@", "a[", "a^", "a\x00", "\x00a", "\xc3\xa4", "a\xc3\xa4", "a\xff", "\x80", "a\n"} {
		wantName(t, s, false)
	}
}

func integer(name string) api.Column { return api.Column{Name: name, Type: api.Int} }

// named are columns of whole numbers with the names that a text has, cut at its spaces.
func named(s string) []api.Column {
	var l []api.Column
	for _, name := range strings.Fields(s) {
		l = append(l, integer(name))
	}
	return l
}

// wantColumns also asks that nothing is written, neither into the list nor into the room behind it.
func wantColumns(t *testing.T, l []api.Column, want api.Errno) {
	t.Helper()
	roomy := append(slices.Clone(l), integer("room"), integer("a"))
	was := slices.Clone(roomy)
	if e := schema.Columns(roomy[:len(l)]); e != want {
		t.Errorf("Columns of %v: %d, not %d", l, e, want)
	}
	if !slices.Equal(roomy, was) {
		t.Errorf("Columns of %v wrote into it: %v", l, roomy)
	}
}

func TestColumnsByNumber(t *testing.T) {
	if schema.Columns(nil) != api.ErrArg || schema.Columns([]api.Column{}) != api.ErrArg {
		t.Error("none")
	}
	wantColumns(t, nil, api.ErrArg)
	for n := 1; n <= 20; n++ {
		want := api.OK
		if n > 6 {
			want = api.ErrLong
		}
		wantColumns(t, named("a b c d e f g h i j k l m n o p q r s t")[:n], want)
	}
	for _, n := range []int{7, 8, 256, 257, 1 << 16} {
		wantColumns(t, make([]api.Column, n), api.ErrLong)
		l := slices.Repeat([]api.Column{integer("a")}, n)
		wantColumns(t, l, api.ErrLong)
		l[0].Type = 9
		wantColumns(t, l, api.ErrLong)
	}
}

func TestColumnsThatAreRight(t *testing.T) {
	for _, kind := range []int{1, 2, 3} {
		for _, flags := range []api.Column{{}, {NotNull: true}, {Unique: true}, {NotNull: true, Unique: true}} {
			for n := 1; n <= 6; n++ {
				for k := range n {
					l := named("a b c d e f")[:n]
					l[k].Type, l[k].NotNull, l[k].Unique = kind, flags.NotNull, flags.Unique
					wantColumns(t, l, api.OK)
				}
			}
		}
	}
	wantColumns(t, named("a aa a_ a0 abcdefghijklmnop abcdefghijklmnoq"), api.OK)
}

// wrongColumns are columns each of which is ErrArg, wherever it stands.
func wrongColumns() []api.Column {
	l := []api.Column{{}, {Name: "a"}, {Type: api.Int}}
	for _, n := range []int{0, 4, 255, 256, 257, 258, 259, -1, -2, 1<<32 + 2, math.MinInt, math.MaxInt} {
		l = append(l, api.Column{Name: "x", Type: n}, api.Column{Name: "a", Type: n, NotNull: true, Unique: true})
	}
	for _, s := range []string{"", "A", "aB", "1", "_", "a-", "a ", "\xff", "abcdefghijklmnopq"} {
		l = append(l, integer(s), api.Column{Name: s, Type: api.Text, NotNull: true}, api.Column{Name: s, Type: 4})
	}
	return l
}

func TestColumnsWithAWrongOne(t *testing.T) {
	for _, c := range wrongColumns() {
		for n := 1; n <= 6; n++ {
			for k := range n {
				l := named("b c d e f g")[:n]
				l[k] = c
				wantColumns(t, l, api.ErrArg)
			}
		}
		for k := range 7 {
			l := named("b c d e f g h")
			l[k] = c
			wantColumns(t, l, api.ErrLong)
		}
	}
}

func TestColumnsWithTwoAlike(t *testing.T) {
	for n := 2; n <= 6; n++ {
		for k := range n {
			for i := range k {
				l := named("a b c d e f")[:n]
				l[k].Name = l[i].Name
				wantColumns(t, l, api.ErrThere)
				l[k].Type, l[k].NotNull, l[i].Unique = api.Text, true, true
				wantColumns(t, l, api.ErrThere)
			}
		}
	}
	wantColumns(t, named("abcdefghijklmnop b abcdefghijklmnop"), api.ErrThere)
	wantColumns(t, named("a a a a a a"), api.ErrThere)
	wantColumns(t, named("a b c d e f a"), api.ErrLong)
}

// The first wrong column decides; within it the Name and the Type come ahead of whether the name is there.
func TestColumnsInTheirOrder(t *testing.T) {
	none := api.Column{Name: "Z", Type: api.Int}
	untyped := api.Column{Name: "z", Type: 4}
	again := api.Column{Name: "a", Type: 0}
	a, b := integer("a"), integer("b")
	for _, x := range []struct {
		l    []api.Column
		want api.Errno
	}{
		{[]api.Column{a, a, none}, api.ErrThere}, {[]api.Column{a, none, a}, api.ErrArg},
		{[]api.Column{a, a, untyped}, api.ErrThere}, {[]api.Column{a, untyped, a}, api.ErrArg},
		{[]api.Column{none, a, a}, api.ErrArg}, {[]api.Column{untyped, a, a}, api.ErrArg},
		{[]api.Column{a, b, a, b, none}, api.ErrThere}, {[]api.Column{a, b, none, a, b}, api.ErrArg},
		{[]api.Column{a, b, b, a, untyped, none}, api.ErrThere},
		{[]api.Column{a, again}, api.ErrArg}, {[]api.Column{again, a}, api.ErrArg},
		{[]api.Column{a, b, again}, api.ErrArg}, {[]api.Column{a, a, again}, api.ErrThere},
		{[]api.Column{a, again, a}, api.ErrArg}, {[]api.Column{none, none}, api.ErrArg},
		{[]api.Column{{Name: "z", Type: 3}, untyped}, api.ErrArg}, {[]api.Column{untyped, untyped}, api.ErrArg},
	} {
		wantColumns(t, x.l, x.want)
	}
}

// toldColumns reads the chapter's words anew, with the numbers that it names.
func toldColumns(l []api.Column) api.Errno {
	if len(l) < 1 {
		return 15
	}
	if len(l) > 6 {
		return 8
	}
	seen := map[string]int{}
	for i, c := range l {
		if len(c.Name) < 1 || len(c.Name) > 16 || strings.Trim(c.Name, others) != "" || !strings.Contains(letters, c.Name[:1]) {
			return 15
		}
		if c.Type < 1 || c.Type > 3 {
			return 15
		}
		if _, there := seen[c.Name]; there {
			return 3
		}
		seen[c.Name] = i
	}
	return 0
}

// each calls f with all lists of at most size of the elements of l.
func each[T any](l []T, size int, f func([]T)) {
	var grow func(have []T)
	grow = func(have []T) {
		f(have)
		if len(have) < size {
			for _, x := range l {
				grow(append(slices.Clone(have), x))
			}
		}
	}
	grow(nil)
}

func TestColumnsOfAllShortLists(t *testing.T) {
	each([]api.Column{
		integer("a"), {Name: "b", Type: api.Text}, {Name: "c", Type: api.Bool}, integer(""), {Name: "a", Type: 4}, {Name: "b"},
	}, 5, func(l []api.Column) { wantColumns(t, l, toldColumns(l)) })
	each([]api.Column{integer("a"), {Name: "b", Type: 4}}, 9, func(l []api.Column) { wantColumns(t, l, toldColumns(l)) })
}

func wantFind(t *testing.T, l []api.Column, name string, want int) {
	t.Helper()
	was := slices.Clone(l)
	if k := schema.Find(l, name); k != want {
		t.Errorf("Find of %q in %v: %d, not %d", name, l, k, want)
	}
	if !slices.Equal(l, was) {
		t.Errorf("Find of %q in %v wrote into it: %v", name, was, l)
	}
}

func TestFind(t *testing.T) {
	l := named("a b c d e f")
	for k, c := range l {
		wantFind(t, l, c.Name, k)
		wantFind(t, l[:k], c.Name, -1)
		wantFind(t, l[k:], c.Name, 0)
		wantFind(t, l[k+1:], c.Name, -1)
	}
	for _, s := range []string{"", "g", "A", "ab", " a", "a ", "a\x00", "\xff"} {
		wantFind(t, l, s, -1)
		wantFind(t, nil, s, -1)
		wantFind(t, []api.Column{}, s, -1)
	}
	wantFind(t, nil, "a", -1)
	wantFind(t, named("ab abc a"), "a", 2)
	wantFind(t, named("a ab abc"), "abc", 2)
}

func TestFindTheFirstOfSeveral(t *testing.T) {
	for n := 2; n <= 6; n++ {
		for k := range n {
			for i := range k {
				l := named("a b c d e f")[:n]
				l[i].Name, l[k].Name = "x", "x"
				wantFind(t, l, "x", i)
			}
		}
	}
	wantFind(t, named("a a a"), "a", 0)
	wantFind(t, named("b a b a b"), "a", 1)
}

// Find goes by names alone: lists that Columns refuses are looked through too.
func TestFindInColumnsThatAreWrong(t *testing.T) {
	l := []api.Column{{Name: "A", Type: 9}, {}, {Name: "\xff"}, {Name: "a", Type: -1, Unique: true}, {Name: "A"}}
	for name, k := range map[string]int{"A": 0, "": 1, "\xff": 2, "a": 3, "b": -1} {
		wantFind(t, l, name, k)
	}
	long := slices.Repeat(named("a"), 1000)
	long[999].Name = "z"
	wantFind(t, long, "z", 999)
}
