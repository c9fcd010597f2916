package tree_test

import (
	"fmt"
	"maps"
	"slices"
	"strings"
	"testing"

	"tripwire/api"
	"tripwire/arena"
	"tripwire/page"
	"tripwire/tree"
)

// wide is a text of size bytes that begins with a number's digits.
func wide(i, size int) string {
	s := fmt.Sprintf("%05d", i)
	if size < len(s) {
		return s[len(s)-size:]
	}
	return s + strings.Repeat("x", size-len(s))
}

// wides is n texts of size bytes, rising.
func wides(n, size int) []string {
	var l []string
	for i := range n {
		l = append(l, wide(i, size))
	}
	return l
}

// short shows texts without their bulk.
func short(l ...string) string {
	s := fmt.Sprintf("%d:", len(l))
	for _, x := range l {
		s += fmt.Sprintf(" %.8q/%d", x, len(x))
	}
	return s
}

func fresh(t *testing.T, quota int) (*arena.Arena, *tree.Tree) {
	t.Helper()
	a, e := arena.New(quota)
	if e != api.OK {
		t.Fatal(e)
	}
	x, e := tree.New(a)
	if e != api.OK || x == nil {
		t.Fatal(x, e)
	}
	return a, x
}

// filled is a tree of these entries.
func filled(t *testing.T, a *arena.Arena, l []string) *tree.Tree {
	t.Helper()
	x, e := tree.New(a)
	if e != api.OK {
		t.Fatal(e)
	}
	for _, s := range l {
		if e := x.Insert(s); e != api.OK {
			t.Fatal(short(s), e)
		}
	}
	return x
}

func told(x *tree.Tree) []string {
	var l []string
	x.Each("", "", func(s string) bool {
		l = append(l, s)
		return true
	})
	return l
}

// held is all bytes of an arena, by page.
func held(a *arena.Arena) map[int]string {
	m := map[int]string{}
	for _, n := range a.Pages() {
		b, _ := a.Load(n)
		m[n] = string(b)
	}
	return m
}

// look is a tree read page by page, without the tree's own calls but for its head.
type look struct {
	a       *arena.Arena
	entries []string
	pages   []int
	single  int // inner nodes below the root with one of the Kids
	wrong   []string
}

func (k *look) fail(what ...any) { k.wrong = append(k.wrong, fmt.Sprint(what...)) }

// visit reads a node whose entries are from lo on, and, if bound, below hi.
func (k *look) visit(at, height int, lo, hi string, bound bool) {
	if slices.Contains(k.pages, at) {
		k.fail("page ", at, " twice")
		return
	}
	k.pages = append(k.pages, at)
	b, e := k.a.Load(at)
	if e != api.OK {
		k.fail("page ", at, " isn't in use: ", e)
		return
	}
	n, e := page.Decode(b)
	if e != api.OK || !page.Right(n) || n.Leaf != (height == 1) {
		k.fail("page ", at, " is no right node for height ", height, ": ", e, " ", n)
		return
	}
	for _, s := range n.Recs {
		if s < lo || bound && s >= hi {
			k.fail("page ", at, ": ", short(s, lo, hi), " is out of bounds")
		}
	}
	if n.Leaf {
		k.entries = append(k.entries, n.Recs...)
		return
	}
	if len(n.Kids) == 1 {
		k.single++
	}
	for i, kid := range n.Kids {
		low, high, to := lo, hi, bound
		if i > 0 {
			low = n.Recs[i-1]
		}
		if i < len(n.Recs) {
			high, to = n.Recs[i], true
		}
		k.visit(kid, height-1, low, high, to)
	}
}

func looked(a *arena.Arena, h tree.Head) look {
	k := look{a: a}
	k.visit(h.Root, h.Height, "", "", false)
	b, _ := a.Load(h.Root)
	if n, e := page.Decode(b); e == api.OK && !n.Leaf && len(n.Recs) == 0 {
		k.fail("an inner root without an entry")
	}
	slices.Sort(k.pages)
	return k
}

// check holds a tree, by its calls and by its pages, against a rising list.
func check(t *testing.T, a *arena.Arena, x *tree.Tree, want []string) look {
	t.Helper()
	k := looked(a, x.Head())
	if len(k.wrong) > 0 {
		t.Fatalf("the shape: %v", k.wrong)
	}
	if !slices.Equal(k.entries, want) {
		t.Fatalf("in the leaves %s, not %s", short(k.entries...), short(want...))
	}
	if l := told(x); !slices.Equal(l, want) {
		t.Fatalf("Each tells %s, not %s", short(l...), short(want...))
	}
	if !slices.Equal(x.Pages(), k.pages) {
		t.Fatalf("Pages %v, not %v", x.Pages(), k.pages)
	}
	h := tree.Head{Root: x.Root(), Height: x.Height(), Len: x.Len()}
	if h != x.Head() || h.Len != len(want) {
		t.Fatalf("%v, Head %v, %d entries", h, x.Head(), len(want))
	}
	return k
}

// alone is check, where the arena has no other pages.
func alone(t *testing.T, a *arena.Arena, x *tree.Tree, want []string) look {
	t.Helper()
	k := check(t, a, x, want)
	if !slices.Equal(a.Pages(), k.pages) {
		t.Fatalf("in use %v, in the tree %v", a.Pages(), k.pages)
	}
	return k
}

func TestNew(t *testing.T) {
	if x, e := tree.New(nil); x != nil || e != api.ErrArg {
		t.Error(x, e)
	}
	none, _ := arena.New(0)
	if x, e := tree.New(none); x != nil || e != api.ErrQuota || none.Used() != 0 {
		t.Error(x, e, none.Used())
	}
	for _, quota := range []int{1, 2, api.MaxPages} {
		a, x := fresh(t, quota)
		alone(t, a, x, nil)
		if x.Height() != 1 || x.Len() != 0 || a.Used() != 1 {
			t.Error(x.Head(), a.Used())
		}
		n, e := page.Decode([]byte(held(a)[x.Root()]))
		if e != api.OK || !n.Leaf || len(n.Recs) != 0 {
			t.Error("the root", n, e)
		}
	}
}

func TestNewWithNoPageLeft(t *testing.T) {
	a, x := fresh(t, 1)
	was := held(a)
	if y, e := tree.New(a); y != nil || e != api.ErrQuota || !maps.Equal(was, held(a)) {
		t.Error(y, e)
	}
	a.Limit(0)
	if y, e := tree.New(a); y != nil || e != api.ErrQuota || !maps.Equal(was, held(a)) {
		t.Error(y, e)
	}
	alone(t, a, x, nil)
	a.Limit(2)
	if y, e := tree.New(a); y == nil || e != api.OK || a.Used() != 2 {
		t.Error(y, e)
	}
}

func TestTheExample(t *testing.T) {
	a, x := fresh(t, 10)
	if e, f := x.Insert("b"), x.Insert("a"); e != api.OK || f != api.OK {
		t.Fatal(e, f)
	}
	alone(t, a, x, []string{"a", "b"})
	if e := x.Delete("b"); e != api.OK || x.Len() != 1 || x.Height() != 1 {
		t.Error(e, x.Head())
	}
	alone(t, a, x, []string{"a"})
}

func TestInsertOfLengths(t *testing.T) {
	a, x := fresh(t, api.MaxPages)
	var want []string
	for _, n := range []int{0, 1, 2, api.MaxEntry - 1, api.MaxEntry, api.MaxEntry + 1, api.MaxEntry + 2, api.PageSize, 1 << 17} {
		s := strings.Repeat("q", n)
		e := x.Insert(s)
		if n < 1 || n > api.MaxEntry {
			if e != api.ErrArg || x.Has(s) {
				t.Error(n, e)
			}
		} else {
			want = append(want, s)
			if e != api.OK || !x.Has(s) {
				t.Error(n, e)
			}
		}
		alone(t, a, x, want)
	}
}

func TestInsertOfWhatIsThere(t *testing.T) {
	a, x := fresh(t, api.MaxPages)
	l := append(wides(30, 400), "\x00", "\xff")
	for _, s := range l {
		if e := x.Insert(s); e != api.OK {
			t.Fatal(e)
		}
	}
	slices.Sort(l)
	was, head := held(a), x.Head()
	for _, s := range l {
		if e := x.Insert(s); e != api.ErrThere || x.Head() != head || !maps.Equal(was, held(a)) {
			t.Fatal(short(s), e)
		}
	}
	alone(t, a, x, l)
}

func TestDeleteOfWhatIsNot(t *testing.T) {
	none := []string{"", "a", "\x00", "\xff", wide(3, 399), wide(3, 400) + "x", wide(3, 6), strings.Repeat("x", api.MaxEntry+1)}
	for _, n := range []int{0, 1, 5, 40} {
		a, x := fresh(t, api.MaxPages)
		l := wides(n, 400)
		for _, s := range l {
			x.Insert(s)
		}
		was, head := held(a), x.Head()
		for _, s := range none {
			if e := x.Delete(s); e != api.ErrName || x.Has(s) || x.Head() != head || !maps.Equal(was, held(a)) {
				t.Error(n, short(s), e)
			}
		}
		alone(t, a, x, l)
	}
}

// orders lists orders of n things, by what is added to come from one to the next.
func orders(n int) [][]int {
	var out [][]int
	for _, by := range []int{1, n - 1, 7, 11} {
		var l []int
		for i := range n {
			l = append(l, (by-1+i*by)%n)
		}
		out = append(out, l)
	}
	return out
}

// samples lists sets of entries, each of them rising, of 60 at least.
func samples() map[string][]string {
	mixed, begins, edges := []string{}, []string{}, []string{}
	for i := range 100 {
		mixed = append(mixed, wide(i, []int{400, 5}[i%2]), wide(i, 7+i*41%390))
		begins = append(begins, strings.Repeat("a", 1+i*4))
	}
	for i := range 8 {
		for j := range 8 {
			edges = append(edges, strings.Repeat("\x00", 1+i*40)+strings.Repeat("\xff", j*15), strings.Repeat("\xff", 1+i*40)+strings.Repeat("\x00", j*15))
		}
	}
	m := map[string][]string{"long": wides(109, 400), "short": wides(1009, 3), "mixed": mixed, "begins": begins, "edges": edges}
	for name, l := range m {
		slices.Sort(l)
		m[name] = slices.Compact(l)
	}
	return m
}

func without(l []string, s string) []string {
	i, there := slices.BinarySearch(l, s)
	if !there {
		return l
	}
	return slices.Delete(slices.Clone(l), i, i+1)
}

func with(l []string, s string) []string {
	i, there := slices.BinarySearch(l, s)
	if there {
		return l
	}
	return slices.Insert(slices.Clone(l), i, s)
}

// TestAllInAndOut puts entries and deletes them all again, in orders of many kinds. While they are deleted the quota is below what is in use.
func TestAllInAndOut(t *testing.T) {
	for name, l := range samples() {
		for i, in := range orders(len(l)) {
			for j, out := range orders(len(l)) {
				if len(l) > 500 && i != j {
					continue
				}
				t.Run(fmt.Sprint(name, i, j), func(t *testing.T) { inAndOut(t, l, in, out) })
			}
		}
	}
}

func inAndOut(t *testing.T, l []string, in, out []int) {
	a, x := fresh(t, api.MaxPages)
	var want []string
	for i, k := range in {
		if e := x.Insert(l[k]); e != api.OK {
			t.Fatal(short(l[k]), e)
		}
		want = with(want, l[k])
		if i%5 == 0 || i == len(in)-1 {
			alone(t, a, x, want)
		}
	}
	a.Limit(0)
	for i, k := range out {
		if !x.Has(l[k]) {
			t.Fatal(short(l[k]), "isn't there")
		}
		was := a.Pages()
		if e := x.Delete(l[k]); e != api.OK || x.Has(l[k]) {
			t.Fatal(short(l[k]), e)
		}
		for _, n := range a.Pages() {
			if !slices.Contains(was, n) {
				t.Fatal("a Delete took page", n)
			}
		}
		want = without(want, l[k])
		if i%5 == 0 || len(want) < 20 {
			alone(t, a, x, want)
		}
	}
	if x.Height() != 1 || a.Used() != 1 {
		t.Error("without entries:", x.Head(), a.Used())
	}
	if e := x.Delete(l[0]); e != api.ErrName {
		t.Error(e)
	}
}

func TestListsThatAreWrittenOver(t *testing.T) {
	a, x := fresh(t, api.MaxPages)
	l := wides(50, 300)
	for _, s := range l {
		x.Insert(s)
	}
	pages := x.Pages()
	was := slices.Clone(pages)
	for i := range pages[:cap(pages)] {
		pages[:cap(pages)][i] = 1
	}
	if !slices.Equal(x.Pages(), was) {
		t.Error(x.Pages(), was)
	}
	alone(t, a, x, l)
	if e := x.Drop(); e != api.OK || a.Used() != 0 {
		t.Error(e, a.Used())
	}
}
