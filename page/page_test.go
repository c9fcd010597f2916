package page_test

import (
	"bytes"
	"fmt"
	"math"
	"math/rand/v2"
	"slices"
	"strings"
	"testing"

	"tripwire/api"
	"tripwire/page"
)

func leaf(recs ...string) page.Node { return page.Node{Leaf: true, Recs: recs} }

func inner(recs []string, kids ...int) page.Node { return page.Node{Recs: recs, Kids: kids} }

// wide is a text of size bytes that begins with c.
func wide(c byte, size int) string { return string([]byte{c}) + strings.Repeat("x", size-1) }

// letters is n texts of one byte each, rising.
func letters(n int) []string {
	var l []string
	for i := range n {
		l = append(l, string([]byte{byte(i)}))
	}
	return l
}

// numbers is n Kids, of which the edges are some.
func numbers(n int) []int {
	var l []int
	for i := range n {
		l = append(l, []int{1, api.MaxPages, 255, 256, 257, 4095, 7}[i%7])
	}
	return l
}

// over lists all texts of at most size bytes, each of them one of c.
func over(c string, size int) []string {
	l := []string{""}
	for from := 0; size > 0; size-- {
		to := len(l)
		for _, s := range l[from:to] {
			for i := range len(c) {
				l = append(l, s+c[i:i+1])
			}
		}
		from = to
	}
	return l
}

func same(a, b page.Node) bool {
	return a.Leaf == b.Leaf && slices.Equal(a.Recs, b.Recs) && slices.Equal(a.Kids, b.Kids)
}

func nothing(n page.Node) bool { return same(n, page.Node{}) }

// copied has lists of its own.
func copied(n page.Node) page.Node {
	return page.Node{Leaf: n.Leaf, Recs: slices.Clone(n.Recs), Kids: slices.Clone(n.Kids)}
}

// brief shows a node without the bulk of its long entries.
func brief(n page.Node) string {
	s := fmt.Sprintf("leaf %v, %d entries, kids %v:", n.Leaf, len(n.Recs), n.Kids)
	for i, r := range n.Recs {
		if i == 8 {
			return s + " .."
		}
		s += fmt.Sprintf(" %.6q/%d", r, len(r))
	}
	return s
}

// full lists right nodes that leave no byte of their pages.
func full() []page.Node {
	return []page.Node{
		leaf(wide('a', 400), wide('b', 400), wide('c', 209)),
		leaf(append(letters(203), wide(203, 2))...),
		leaf(wide(0, 400), wide(1, 400), wide(2, 200), wide(3, 5)),
		inner([]string{wide('a', 400), wide('b', 400), wide('c', 193)}, 1, 4096, 2, 4095),
		inner(append(letters(112), wide(200, 1)), numbers(114)...),
		inner([]string{wide('a', 1), wide('b', 400), wide('c', 400), wide('d', 184)}, 1, 2, 3, 4, 5),
	}
}

// rights lists right nodes, at their edges.
func rights() []page.Node {
	l := append(full(),
		leaf(), leaf("a"), leaf("\x00"), leaf("\xff"), leaf("a", "b"), leaf("a", "bc"), leaf("a", "ab", "abc"),
		leaf("\x00", "\x00\x00", "\x00\x01", "\x01"), leaf("\x7f", "\x80", "\xfe", "\xff", "\xff\x00", "\xff\xff"),
		leaf("B", "a"), leaf("z", "\xc3\xa4"), leaf("a", "a\x00", "a\x00\x00"),
		leaf(wide('a', 400)), leaf("a", wide('b', 399), wide('c', 400)), leaf(wide('a', 256), wide('b', 255), wide('c', 257)),
		leaf(strings.Repeat("\x00", 400)), leaf(strings.Repeat("\xff", 400)), leaf(letters(204)...), leaf(letters(8)...),
		inner(nil, 1), inner(nil, 4096), inner(nil, 255), inner(nil, 256), inner([]string{"a"}, 1, 2), inner([]string{"a"}, 9, 9),
		inner([]string{"g", "m", "t"}, 3, 1, 4, 2), inner([]string{"\x00", "\xff"}, 1, 4096, 1),
		inner([]string{wide('a', 400)}, 4096, 4095), inner(letters(112), numbers(113)...),
	)
	for seed := range uint64(40) {
		l = append(l, made(rand.New(rand.NewPCG(seed, 5))))
	}
	return l
}

// made is a right node by chance, the same each time.
func made(r *rand.Rand) page.Node {
	n := page.Node{Leaf: r.IntN(2) == 0}
	if !n.Leaf {
		n.Kids = []int{1 + r.IntN(api.MaxPages)}
	}
	most := []int{3, 20, 90, 400}[r.IntN(4)]
	for range 400 {
		b := make([]byte, 1+r.IntN(most))
		for i := range b {
			b[i] = []byte{0, 1, 'a', 'b', 255}[r.IntN(5)]
		}
		m := copied(n)
		m.Recs = append(m.Recs, string(b))
		slices.Sort(m.Recs)
		if !n.Leaf {
			m.Kids = append(m.Kids, 1+r.IntN(api.MaxPages))
		}
		if !slices.Contains(n.Recs, string(b)) && sum(m) <= 1024 {
			n = m
		}
	}
	return n
}

// sum is a node's size as the chapter tells it.
func sum(n page.Node) int {
	return 3 + 4*len(n.Kids) + 4*len(n.Recs) + len(strings.Join(n.Recs, ""))
}

// told is a right node's page as the chapter tells it, put together from its parts.
func told(n page.Node) []byte {
	head := []byte{2, byte(len(n.Recs) / 256), byte(len(n.Recs) % 256)}
	if n.Leaf {
		head[0] = 1
	}
	for _, k := range n.Kids {
		head = append(head, 0, 0, byte(k/256), byte(k%256))
	}
	var tail string
	for _, s := range n.Recs {
		tail = s + tail
		from := 1024 - len(tail)
		head = append(head, byte(from/256), byte(from%256), byte(len(s)/256), byte(len(s)%256))
	}
	noughts := make([]byte, 1024-len(head)-len(tail))
	return slices.Concat(head, noughts, []byte(tail))
}

func TestSize(t *testing.T) {
	for _, c := range []struct {
		n    page.Node
		want int
	}{
		{page.Node{}, 3}, {leaf(), 3}, {leaf("a", "b"), 13}, {leaf("a", "bc"), 14},
		{leaf(""), 7}, {leaf("", "", ""), 15}, {leaf("b", "a", "a"), 18}, {leaf(wide('a', 401)), 408},
		{page.Node{Leaf: true, Kids: []int{1, 2}}, 11}, {page.Node{Leaf: true, Recs: []string{"abc"}, Kids: []int{0}}, 14},
		{inner(nil, 1), 7}, {inner([]string{"a"}), 8}, {inner([]string{"a"}, 1, 2), 16}, {inner([]string{"g", "m", "t"}, 3, 1, 4, 2), 34},
		{inner([]string{""}, math.MinInt, -1, math.MaxInt), 19}, {inner(nil, make([]int, 70000)...), 280003},
		{leaf(make([]string, 70000)...), 280003}, {leaf(wide('a', 100000), "b"), 100012},
	} {
		if got := page.Size(c.n); got != c.want {
			t.Errorf("%s: %d, not %d", brief(c.n), got, c.want)
		}
	}
	for _, n := range full() {
		if page.Size(n) != 1024 {
			t.Errorf("%s: %d", brief(n), page.Size(n))
		}
	}
	for _, n := range append(rights(), wrongs()...) {
		if page.Size(n) != sum(n) {
			t.Errorf("%s: %d, not %d", brief(n), page.Size(n), sum(n))
		}
	}
}

// greats lists nodes that are right but for their size.
func greats() []page.Node {
	l := []page.Node{
		leaf(wide('a', 400), wide('b', 400), wide('c', 210)), leaf(wide('a', 400), wide('b', 400), wide('c', 400)),
		leaf(append(letters(203), wide(203, 3))...), leaf(letters(205)...), leaf(letters(256)...),
		inner([]string{wide('a', 400), wide('b', 400), wide('c', 194)}, 1, 2, 3, 4),
		inner(append(letters(112), wide(200, 2)), numbers(114)...), inner(letters(114), numbers(115)...),
	}
	many := over("0123456789", 5)[1:]
	slices.Sort(many)
	return append(l, leaf(many...), leaf(many[:65536]...), inner(many[:65537], numbers(65538)...))
}

// wrongs lists nodes that aren't right, whatever their size is.
func wrongs() []page.Node {
	l := []page.Node{
		{}, leaf(""), leaf("", "a"), leaf("a", ""), leaf("", ""), leaf("a", "a"), leaf("b", "a"), leaf("ab", "a"), leaf("\x00\x00", "\x00"),
		leaf("\xff", "\x00"), leaf("\x80", "\x7f"), leaf("a", "b", "b"), leaf("a", "c", "b"), leaf("b", "a", "c"), leaf("a", "b", "a"),
		leaf(wide('a', 401)), leaf("a", wide('b', 401)), leaf(wide('a', 401), "b"), leaf(wide('a', 1021)), leaf(wide('a', 70000)),
		{Leaf: true, Kids: []int{1}}, {Leaf: true, Recs: []string{"a"}, Kids: []int{1, 2}}, {Leaf: true, Recs: []string{"a"}, Kids: []int{0}},
		inner([]string{"a"}), inner([]string{"a"}, 1), inner([]string{"a"}, 1, 2, 3), inner(nil, 1, 2),
		inner([]string{"a", "b"}, 1, 2), inner([]string{"a", "b"}, 1, 2, 3, 4),
		inner([]string{""}, 1, 2), inner([]string{"b", "a"}, 1, 2, 3), inner([]string{"a", "a"}, 1, 2, 3), inner([]string{wide('a', 401)}, 1, 2),
	}
	for _, k := range wrongKids() {
		l = append(l, inner(nil, k), inner([]string{"a", "b"}, k, 1, 2), inner([]string{"a", "b"}, 1, k, 2), inner([]string{"a", "b"}, 1, 2, k))
	}
	return append(l, wrongGreats()...)
}

func wrongKids() []int {
	return []int{0, 4097, -1, -4096, math.MinInt, math.MaxInt, 1<<32 + 1, 1<<16 + 1, 1 << 31, 1<<32 - 1, math.MinInt + 1}
}

// wrongGreats lists nodes that are too great, and also wrong otherwise: in what comes first of them, or in what comes last.
func wrongGreats() []page.Node {
	a, b, c := wide('a', 400), wide('b', 400), wide('c', 400)
	return []page.Node{
		leaf(a, b, c, c), leaf(b, a, c), leaf(a, c, b), leaf("", a, b, c), leaf(a, b, c, ""), leaf(a, b, wide('c', 401)),
		{Leaf: true, Recs: []string{a, b, c}, Kids: []int{1}}, inner([]string{a, b, c}, 1, 2, 3), inner([]string{a, b, c}, 1, 2, 3, 4, 5),
		inner([]string{a, b, c}, 1, 2, 3, 0), inner([]string{a, b, c}, 4097, 2, 3, 4), inner([]string{a, b, c}), inner(nil, numbers(300)...),
		leaf(append(letters(250), "a")...), leaf(make([]string, 70000)...),
	}
}

func TestRight(t *testing.T) {
	for _, n := range rights() {
		if !page.Right(n) {
			t.Errorf("%s isn't right", brief(n))
		}
	}
	for _, n := range append(greats(), wrongs()...) {
		if page.Right(n) {
			t.Errorf("%s is right", brief(n))
		}
	}
}

func TestRightOfLists(t *testing.T) {
	for _, n := range []page.Node{{Leaf: true, Recs: []string{}, Kids: []int{}}, {Leaf: true, Kids: []int{}}, {Recs: []string{}, Kids: []int{5}}} {
		if b, e := page.Encode(n); !page.Right(n) || e != api.OK || !bytes.Equal(b, told(n)) {
			t.Errorf("an empty list isn't taken as none: %#v", n)
		}
	}
}

// TestRightOfAllPairs holds the order of entries against that of their bytes.
func TestRightOfAllPairs(t *testing.T) {
	all := over("\x00\x01a\x80\xff", 3)
	for _, x := range all {
		for _, y := range all {
			want := x != "" && bytes.Compare([]byte(x), []byte(y)) < 0
			if page.Right(leaf(x, y)) != want || page.Right(inner([]string{x, y}, 1, 2, 3)) != want {
				t.Fatalf("%q, %q: not %v", x, y, want)
			}
		}
	}
}

func TestEncodeRefuses(t *testing.T) {
	for _, n := range greats() {
		if b, e := page.Encode(n); e != api.ErrLong || b != nil {
			t.Errorf("%s: %d", brief(n), e)
		}
	}
	for _, n := range wrongs() {
		if b, e := page.Encode(n); e != api.ErrArg || b != nil {
			t.Errorf("%s: %d", brief(n), e)
		}
	}
}

// TestEncodeByHand holds pages against bytes that are written out.
func TestEncodeByHand(t *testing.T) {
	for _, c := range []struct {
		n          page.Node
		head, tail string
	}{
		{leaf(), "\x01\x00\x00", ""},
		{leaf("a", "b"), "\x01\x00\x02\x03\xff\x00\x01\x03\xfe\x00\x01", "ba"},
		{leaf("a", "bc"), "\x01\x00\x02\x03\xff\x00\x01\x03\xfd\x00\x02", "bca"},
		{leaf(wide('a', 400)), "\x01\x00\x01\x02\x70\x01\x90", wide('a', 400)},
		{inner(nil, 4096), "\x02\x00\x00\x00\x00\x10\x00", ""},
		{inner([]string{"g", "hi"}, 3, 258, 4095), "\x02\x00\x02\x00\x00\x00\x03\x00\x00\x01\x02\x00\x00\x0f\xff\x03\xff\x00\x01\x03\xfd\x00\x02", "hig"},
	} {
		want := c.head + strings.Repeat("\x00", 1024-len(c.head)-len(c.tail)) + c.tail
		if b, e := page.Encode(c.n); e != api.OK || string(b) != want {
			t.Errorf("%s: %d, %x .. %q", brief(c.n), e, b[:min(len(b), len(c.head)+4)], b[max(0, len(b)-len(c.tail)-4):])
		}
	}
}

func TestEncode(t *testing.T) {
	for _, n := range rights() {
		if b, e := page.Encode(n); e != api.OK || !bytes.Equal(b, told(n)) {
			t.Errorf("%s: %d, %x", brief(n), e, b)
		}
	}
}

func wantPlace(t *testing.T, n page.Node, s string, at int, there bool, kid int) {
	t.Helper()
	if i, ok := page.Find(n, s); i != at || ok != there {
		t.Errorf("Find of %q in %s: %d, %v, not %d, %v", s, brief(n), i, ok, at, there)
	}
	if i := page.Kid(n, s); i != kid {
		t.Errorf("Kid of %q in %s: %d, not %d", s, brief(n), i, kid)
	}
}

func TestFindAndKid(t *testing.T) {
	for _, n := range []page.Node{leaf("g", "m", "t"), inner([]string{"g", "m", "t"}, 3, 1, 4, 2), {Recs: []string{"g", "m", "t"}}} {
		wantPlace(t, n, "", 0, false, 0)
		wantPlace(t, n, "a", 0, false, 0)
		wantPlace(t, n, "g", 0, true, 1)
		wantPlace(t, n, "g\x00", 1, false, 1)
		wantPlace(t, n, "l\xff", 1, false, 1)
		wantPlace(t, n, "m", 1, true, 2)
		wantPlace(t, n, "p", 2, false, 2)
		wantPlace(t, n, "t", 2, true, 3)
		wantPlace(t, n, "tt", 3, false, 3)
		wantPlace(t, n, "\xff", 3, false, 3)
		wantPlace(t, n, wide('m', 5000), 2, false, 2)
	}
	for _, n := range []page.Node{{}, leaf(), inner(nil, 1), inner(nil, 1, 2)} {
		for _, s := range []string{"", "a", "\xff", "\x00"} {
			wantPlace(t, n, s, 0, false, 0)
		}
	}
	wantPlace(t, leaf(""), "", 0, true, 1)
	wantPlace(t, leaf("a", "ab", "abc"), "ab", 1, true, 2)
	wantPlace(t, leaf("\x00", "\x7f", "\x80", "\xff"), "\x80", 2, true, 3)
	wantPlace(t, leaf(letters(204)...), string([]byte{203}), 203, true, 204)
}

// TestFindAndKidOfAll counts what is below and what is at most a text, for all short texts in right nodes.
func TestFindAndKidOfAll(t *testing.T) {
	all := over("\x00\x01ab\xff", 3)
	for _, n := range rights() {
		for _, s := range append(all, n.Recs...) {
			below, upTo := 0, 0
			for _, r := range n.Recs {
				c := bytes.Compare([]byte(r), []byte(s))
				if c < 0 {
					below++
				}
				if c <= 0 {
					upTo++
				}
			}
			wantPlace(t, n, s, below, upTo > below, upTo)
		}
	}
}
