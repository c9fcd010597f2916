package page_test

import (
	"bytes"
	"math/rand/v2"
	"slices"
	"strings"
	"testing"

	"tripwire/api"
	"tripwire/page"
)

// unmade is the right node whose page b is, by the chapter: it takes the page to pieces, and asks of each whether it is what it must be.
func unmade(b []byte) (page.Node, bool) {
	if len(b) != 1024 || b[0] != 1 && b[0] != 2 {
		return page.Node{}, false
	}
	n := page.Node{Leaf: b[0] == 1}
	left := b[3:]
	take := func(size int) (v int) {
		for range size {
			if len(left) == 0 {
				return -1
			}
			v, left = v*256+int(left[0]), left[1:]
		}
		return v
	}
	count := int(b[1])*256 + int(b[2])
	for i := 0; !n.Leaf && i <= count; i++ {
		k := take(4)
		if k < 1 || k > 4096 {
			return page.Node{}, false
		}
		n.Kids = append(n.Kids, k)
	}
	from, last := 1024, ""
	for range count {
		begin, size := take(2), take(2)
		if size < 1 || size > 400 || begin != from-size || begin < 0 {
			return page.Node{}, false
		}
		s := string(b[begin:from])
		if s <= last {
			return page.Node{}, false
		}
		n.Recs, from, last = append(n.Recs, s), begin, s
	}
	between := from - (1024 - len(left))
	if between < 0 || strings.Trim(string(left[:between]), "\x00") != "" {
		return page.Node{}, false
	}
	return n, true
}

// wantDecode holds what Decode makes of b against the chapter.
func wantDecode(t *testing.T, b []byte, what ...any) {
	t.Helper()
	n, e := page.Decode(b)
	want, ok := unmade(b)
	if !ok {
		wantForm(t, b, what...)
		return
	}
	if e != api.OK || !same(n, want) || !page.Right(n) {
		t.Fatalf("%v: %d, %s, not %s", what, e, brief(n), brief(want))
	}
	if again, e := page.Encode(n); e != api.OK || !bytes.Equal(again, b) {
		t.Fatalf("%v: another page: %d", what, e)
	}
}

func wantForm(t *testing.T, b []byte, what ...any) {
	t.Helper()
	if n, e := page.Decode(b); e != api.ErrForm || !nothing(n) {
		t.Fatalf("%v: %d, %s", what, e, brief(n))
	}
}

func TestDecodeTakesEncodeBack(t *testing.T) {
	for _, n := range rights() {
		b, _ := page.Encode(n)
		if m, e := page.Decode(b); e != api.OK || !same(m, n) {
			t.Errorf("%s: %d, %s", brief(n), e, brief(m))
		}
		if m, ok := unmade(b); !ok || !same(m, n) {
			t.Errorf("%s: no page of it", brief(n))
		}
		wantDecode(t, told(n), brief(n))
	}
}

func TestDecodeOfOtherSizes(t *testing.T) {
	b := told(leaf("a", "b"))
	empty := told(leaf())
	wantDecode(t, empty, "just PageSize")
	for _, c := range [][]byte{nil, {}, {1}, {1, 0, 0}, b[:1023], b[1:], empty[:1023], append(slices.Clone(b), 0), append(slices.Clone(empty), 0), append([]byte{0}, b...), slices.Concat(b, b), make([]byte, 512), make([]byte, 70000)} {
		wantForm(t, c, len(c), "bytes")
	}
	for size := range 1100 {
		wantForm(t, make([]byte, size), size, "noughts")
	}
}

// TestDecodeOfEachByteChanged takes all other values of the bytes at both ends, where all that matters is, and some of them in between.
func TestDecodeOfEachByteChanged(t *testing.T) {
	some := []page.Node{
		leaf(), leaf("a", "b"), leaf("a", "ab", "b\x00", "\xff"), leaf(wide('a', 400), wide('b', 400), wide('c', 209)), leaf(letters(204)...),
		inner(nil, 1), inner([]string{"g", "m", "t"}, 3, 1, 4096, 255), inner([]string{wide('a', 400), wide('b', 400), wide('c', 193)}, 1, 2, 3, 4),
	}
	for _, n := range some {
		b := told(n)
		for i, old := range b {
			for _, c := range others(i, old) {
				b[i] = c
				wantDecode(t, b, brief(n), "byte", i, "is", c)
			}
			b[i] = old
		}
	}
}

// others lists what byte i is changed to.
func others(i int, old byte) []byte {
	if i >= 48 && i < 1024-16 {
		return []byte{old + 1, old - 1, old ^ 0x80, ^old}
	}
	var l []byte
	for d := range 255 {
		l = append(l, old+1+byte(d))
	}
	return l
}

// TestDecodeOfManyBytesChanged changes numbers of the head, several at once, and moves pieces of a page.
func TestDecodeOfManyBytesChanged(t *testing.T) {
	all := rights()
	for seed := range uint64(300) {
		r := rand.New(rand.NewPCG(seed, 55))
		b := told(all[r.IntN(len(all))])
		for range 40 {
			switch r.IntN(4) {
			case 0:
				b[r.IntN(12)] = byte(r.IntN(6))
			case 1:
				b[3+r.IntN(60)] = []byte{0, 1, 2, 3, 4, 252, 253, 254, 255}[r.IntN(9)]
			case 2:
				copy(b[r.IntN(1024):], b[r.IntN(1024):])
			default:
				b[r.IntN(1024)] ^= 1 << r.IntN(8)
			}
			wantDecode(t, b, "seed", seed)
			if r.IntN(4) == 0 {
				b = told(all[r.IntN(len(all))])
			}
		}
	}
}

// laid is a page whose slots need not be where the entries are.
func laid(mark byte, count int, kids []uint32, slots [][2]int, tail string) []byte {
	b := make([]byte, 1024-len(tail))
	b = append(b, tail...)
	head := []byte{mark, byte(count >> 8), byte(count)}
	for _, k := range kids {
		head = append(head, byte(k>>24), byte(k>>16), byte(k>>8), byte(k))
	}
	for _, s := range slots {
		head = append(head, byte(s[0]>>8), byte(s[0]), byte(s[1]>>8), byte(s[1]))
	}
	copy(b, head)
	return b
}

func TestDecodeOfWrongMarks(t *testing.T) {
	for mark := range 256 {
		b := told(leaf("a", "b"))
		b[0] = byte(mark)
		c := told(inner([]string{"a"}, 1, 2))
		c[0] = byte(mark)
		if mark != 1 {
			wantForm(t, b, "a leaf's mark is", mark)
		}
		if mark != 2 {
			wantForm(t, c, "an inner node's mark is", mark)
		}
	}
}

func TestDecodeOfWrongCounts(t *testing.T) {
	for count := range 1 << 16 {
		if count != 2 {
			wantForm(t, laid(1, count, nil, [][2]int{{1023, 1}, {1022, 1}}, "ba"), "a leaf's count is", count)
			wantForm(t, laid(2, count, []uint32{1, 2, 3}, [][2]int{{1023, 1}, {1022, 1}}, "ba"), "an inner node's count is", count)
		}
		if count != 0 {
			wantForm(t, laid(1, count, nil, nil, ""), "a count without slots is", count)
		}
	}
}

func TestDecodeOfWrongSlots(t *testing.T) {
	wantDecode(t, laid(1, 2, nil, [][2]int{{1023, 1}, {1022, 1}}, "ba"), "as it must be")
	for _, slots := range [][][2]int{
		{{1022, 1}, {1023, 1}}, {{1023, 1}, {1023, 1}}, {{1022, 2}, {1022, 1}}, {{1022, 1}, {1021, 1}}, {{1023, 1}, {1021, 1}}, {{1023, 1}, {1021, 2}},
		{{1023, 1}, {1022, 2}}, {{1023, 1}, {1022, 0}}, {{1023, 0}, {1022, 1}}, {{1024, 0}, {1023, 1}}, {{1023, 2}, {1022, 1}}, {{1024, 1}, {1022, 1}},
		{{1025, 0}, {1022, 1}}, {{65535, 1}, {1022, 1}}, {{65535, 65535}, {1022, 1}}, {{0, 65535}, {1022, 1}}, {{1023, 1}, {65535, 1}}, {{1023, 1}, {0, 1}},
		{{0, 1024}, {0, 1024}}, {{1023, 65535}, {1022, 1}}, {{0, 0}, {0, 0}}, {{1, 1023}, {1022, 1}}, {{1023, 1}, {3, 1}}, {{1023, 1}, {2, 2}},
	} {
		wantForm(t, laid(1, 2, nil, slots, "ba"), slots)
		wantForm(t, laid(2, 2, []uint32{1, 2, 3}, slots, "ba"), slots)
	}
	for begin := range 1 << 16 {
		if begin != 1023 {
			wantForm(t, laid(1, 1, nil, [][2]int{{begin, 1}}, "a"), "begins at", begin)
		}
	}
	for size := range 1 << 16 {
		wantDecode(t, laid(1, 1, nil, [][2]int{{max(0, 1024-size), size}}, wide('a', 1000)), "has the length", size)
	}
}

// TestDecodeOfASlotOverTheHead has slots that are right but that the entries would lie over them.
func TestDecodeOfASlotOverTheHead(t *testing.T) {
	slots := [][2]int{{624, 400}, {224, 400}, {15, 209}}
	good := laid(1, 3, nil, slots, wide('c', 209)+wide('b', 400)+wide('a', 400))
	wantDecode(t, good, "full")
	if _, e := page.Decode(good); e != api.OK {
		t.Error("a full page isn't taken", e)
	}
	good[12], good[14] = 14, 210 // its last slot: one more byte, which is the slot's own
	wantForm(t, good, "an entry lies over its slot")
}

func TestDecodeOfWrongEntries(t *testing.T) {
	for _, c := range []struct {
		slots [][2]int
		tail  string
	}{
		{[][2]int{{1023, 1}, {1022, 1}}, "ab"}, {[][2]int{{1023, 1}, {1022, 1}}, "aa"}, {[][2]int{{1022, 2}, {1021, 1}}, "aab"},
		{[][2]int{{623, 401}}, wide('a', 401)}, {[][2]int{{623, 401}, {622, 1}}, "b" + wide('a', 401)},
		{[][2]int{{1023, 1}, {1022, 1}, {1021, 1}}, "bca"}, {[][2]int{{1023, 1}, {1022, 1}, {1021, 1}}, "cab"}, {[][2]int{{1024, 0}}, ""},
	} {
		wantForm(t, laid(1, len(c.slots), nil, c.slots, c.tail), c.slots)
		wantForm(t, laid(2, len(c.slots), []uint32{1, 2, 3, 4}[:len(c.slots)+1], c.slots, c.tail), c.slots)
	}
}

func TestDecodeOfWrongKids(t *testing.T) {
	wrong := []uint32{0, 4097, 8192, 1<<16 + 1, 1<<24 + 1, 1<<31 + 1, 1 << 31, 1<<32 - 1}
	for i := range 3 {
		for _, k := range wrong {
			kids := []uint32{1, 4096, 2}
			wantDecode(t, laid(2, 2, kids, [][2]int{{1023, 1}, {1022, 1}}, "ba"), kids)
			kids[i] = k
			wantForm(t, laid(2, 2, kids, [][2]int{{1023, 1}, {1022, 1}}, "ba"), kids)
		}
	}
	for k := range uint32(5000) {
		wantDecode(t, laid(2, 0, []uint32{k}, nil, ""), "a kid", k)
	}
	wantForm(t, laid(1, 0, []uint32{1}, nil, ""), "a leaf with Kids")
	wantForm(t, laid(2, 0, nil, nil, ""), "an inner node without Kids")
}

func TestDecodeOfBytesBetween(t *testing.T) {
	for _, n := range []page.Node{leaf(), leaf("a", "b"), inner(nil, 7), inner([]string{"a", "b"}, 1, 2, 3)} {
		head := sum(n) - len(strings.Join(n.Recs, ""))
		for i := head; i < 1024-len(strings.Join(n.Recs, "")); i++ {
			b := told(n)
			b[i] = byte(1 + i%255)
			wantForm(t, b, brief(n), "byte", i)
		}
	}
}
