package tree_test

import (
	"errors"
	"maps"
	"slices"
	"strings"
	"testing"

	"tripwire/api"
	"tripwire/fault"
	"tripwire/tree"
)

func toldFrom(x *tree.Tree, from, to string) []string {
	var l []string
	x.Each(from, to, func(s string) bool {
		l = append(l, s)
		return true
	})
	return l
}

// between is the chapter's words over a list.
func between(l []string, from, to string) []string {
	var out []string
	for _, s := range l {
		if s >= from && (to == "" || s < to) {
			out = append(out, s)
		}
	}
	return out
}

// around is entries, what stands right beside them, and what no entry may be.
func around(l []string, by int) []string {
	out := []string{"", "\x00", "\xff\xff", strings.Repeat("\xff", 500), strings.Repeat("0", 500)}
	for i := 0; i < len(l); i += by {
		out = append(out, l[i], l[i]+"\x00", l[i][:len(l[i])-1], l[i]+strings.Repeat("z", 400))
	}
	return append(out, l[len(l)-1])
}

func TestEachBetween(t *testing.T) {
	for name, l := range samples() {
		_, x := fresh(t, api.MaxPages)
		for i := range l {
			x.Insert(l[i*7%len(l)])
			x.Insert(l[i])
		}
		bounds := around(l, len(l)/9)
		for _, from := range bounds {
			for _, to := range bounds {
				if got, want := toldFrom(x, from, to), between(l, from, to); !slices.Equal(got, want) {
					t.Fatalf("%s from %s to %s: %s, not %s", name, short(from), short(to), short(got...), short(want...))
				}
			}
		}
	}
}

func TestEachOfFewEntries(t *testing.T) {
	for _, l := range [][]string{nil, {"b"}, {"b", "d"}} {
		_, x := fresh(t, 9)
		for _, s := range l {
			x.Insert(s)
		}
		bounds := []string{"", "a", "b", "b\x00", "c", "d", "d\x00", "e"}
		for _, from := range bounds {
			for _, to := range bounds {
				if got := toldFrom(x, from, to); !slices.Equal(got, between(l, from, to)) {
					t.Errorf("%q from %q to %q: %q", l, from, to, got)
				}
			}
		}
	}
}

// TestEachWhileTrue: f answers false at each of the entries in turn, and isn't called behind that.
func TestEachWhileTrue(t *testing.T) {
	for name, l := range samples() {
		_, x := fresh(t, api.MaxPages)
		for _, s := range l {
			x.Insert(s)
		}
		for i := 0; i < len(l); i += 1 + len(l)/200 {
			for _, from := range []int{0, i / 2, i} {
				var got []string
				x.Each(l[from], "", func(s string) bool {
					got = append(got, s)
					return s != l[i]
				})
				if !slices.Equal(got, l[from:i+1]) {
					t.Fatalf("%s: from %d, false at %d: %s", name, from, i, short(got...))
				}
			}
		}
		last, n := l[len(l)-1], 0
		x.Each("", "", func(s string) bool {
			n++
			return s != last
		})
		if n != len(l) {
			t.Errorf("%s: false at the last one: %d calls, not %d", name, n, len(l))
		}
	}
}

func TestEachWithinEach(t *testing.T) {
	a, x := fresh(t, api.MaxPages)
	l := wides(40, 400)
	for _, s := range l {
		x.Insert(s)
	}
	i := 0
	x.Each("", "", func(s string) bool {
		if s != l[i] || !x.Has(s) || x.Has(s+"x") || x.Len() != len(l) {
			t.Fatal(i, short(s), x.Len())
		}
		if got := toldFrom(x, s, ""); !slices.Equal(got, l[i:]) {
			t.Fatalf("within: %s", short(got...))
		}
		x.Each("", s, func(string) bool { return false })
		i++
		return true
	})
	if i != len(l) {
		t.Error(i)
	}
	alone(t, a, x, l)
}

// raised is what f panics with; nil, if it comes to its end.
func raised(f func()) (r any) {
	defer func() { r = recover() }()
	f()
	return nil
}

func TestEachOfAPanic(t *testing.T) {
	a, x := fresh(t, api.MaxPages)
	l := wides(40, 400)
	for _, s := range l {
		x.Insert(s)
	}
	was, head := held(a), x.Head()
	for _, p := range []any{"other", errors.New("other"), api.Fault{Code: api.ErrForm, At: 3}, api.Fault{}, api.ErrName} {
		for _, at := range []int{0, 1, 20, len(l) - 1} {
			calls := 0
			r := raised(func() {
				x.Each("", "", func(s string) bool {
					calls++
					if s == l[at] {
						panic(p)
					}
					return true
				})
			})
			if r != p || calls != at+1 || x.Head() != head || !maps.Equal(was, held(a)) {
				t.Errorf("%v at %d: %v goes through, %d calls", p, at, r, calls)
			}
		}
	}
	alone(t, a, x, l)
}

func TestEachOfAStop(t *testing.T) {
	_, x := fresh(t, api.MaxPages)
	for _, s := range wides(40, 400) {
		x.Insert(s)
	}
	got := fault.Catch(func() {
		x.Each("", "", func(string) bool {
			fault.Stop(api.ErrBudget, 7)
			return true
		})
		t.Error("Each went on behind a stop")
	})
	if got != (api.Fault{Code: api.ErrBudget, At: 7}) {
		t.Error(got)
	}
}

func TestEachOfNoFunction(t *testing.T) {
	_, x := fresh(t, api.MaxPages)
	for _, s := range wides(10, 400) {
		x.Insert(s)
	}
	if r := raised(func() { x.Each("", "", nil) }); r != nil {
		t.Error(r)
	}
}

// TestEachThatChangesTheTree: the chapter rules it out, but a call ends nevertheless, and doesn't panic.
func TestEachThatChangesTheTree(t *testing.T) {
	for name, f := range map[string]func(x *tree.Tree, s string){
		"Delete": func(x *tree.Tree, s string) { x.Delete(s) },
		"Insert": func(x *tree.Tree, s string) { x.Insert(s[:5] + "y" + s[5:min(len(s), 390)]) },
		"Drop":   func(x *tree.Tree, s string) { x.Drop() },
	} {
		a, x := fresh(t, 300)
		for _, s := range wides(100, 300) {
			x.Insert(s)
		}
		r := raised(func() {
			x.Each("", "", func(s string) bool {
				f(x, s)
				return true
			})
		})
		if r != nil {
			t.Error(name, r)
		}
		if x.Root() != 0 {
			alone(t, a, x, told(x))
		}
	}
}
