package page_test

import (
	"bytes"
	"slices"
	"testing"

	"tripwire/api"
	"tripwire/page"
)

// roomy has the same lists, with room behind them that a careless append would write into, and what stands there.
func roomy(n page.Node) (page.Node, func() bool) {
	recs, kids := append(slices.Clone(n.Recs), "room", "room", "room", "room"), append(slices.Clone(n.Kids), -7, -7, -7, -7)
	m := page.Node{Leaf: n.Leaf, Recs: recs[:len(n.Recs)], Kids: kids[:len(n.Kids)]}
	was := page.Node{Leaf: n.Leaf, Recs: slices.Clone(recs), Kids: slices.Clone(kids)}
	return m, func() bool { return slices.Equal(recs, was.Recs) && slices.Equal(kids, was.Kids) }
}

// spoil writes over a node's lists, and over the room behind them.
func spoil(n page.Node) {
	recs, kids := n.Recs[:cap(n.Recs)], n.Kids[:cap(n.Kids)]
	for i := range recs {
		recs[i] = "spoilt"
	}
	for i := range kids {
		kids[i] = -99
	}
}

func wantNode(t *testing.T, what string, got, want page.Node) {
	t.Helper()
	if !same(got, want) {
		t.Errorf("%s: %s, not %s", what, brief(got), brief(want))
	}
}

// odd lists nodes of every sort: of such as well nothing may be written into, and no call may panic.
func odd() []page.Node { return slices.Concat(rights(), greats()[:8], wrongs()) }

func TestNoArgumentIsWrittenInto(t *testing.T) {
	for _, n := range odd() {
		m, kept := roomy(n)
		page.Size(m)
		page.Right(m)
		page.Encode(m)
		for _, s := range []string{"", "a", "\xff", wide('x', 1000)} {
			page.Find(m, s)
			page.Kid(m, s)
		}
		page.Split(m)
		if !kept() {
			t.Errorf("%s was written into", brief(n))
		}
	}
}

func TestJoinWritesIntoNoArgument(t *testing.T) {
	for _, n := range odd() {
		for _, o := range []page.Node{{}, leaf(), leaf("a", "b"), inner(nil, 1), inner([]string{"a"}, 1, 2), n} {
			a, keptA := roomy(n)
			b, keptB := roomy(o)
			spoil(page.Join(a, "sep", b))
			spoil(page.Join(b, "sep", a))
			if !keptA() || !keptB() {
				t.Errorf("%s and %s: written into", brief(n), brief(o))
			}
		}
	}
}

func TestSplitSharesNothing(t *testing.T) {
	for _, n := range odd() {
		m, kept := roomy(n)
		a, sep, b := page.Split(m)
		wasA, wasB := copied(a), copied(b)
		spoil(a)
		wantNode(t, "the second side, when the first one was written over", b, wasB)
		if !kept() {
			t.Errorf("%s: shared with its first side", brief(n))
		}
		spoil(b)
		if !kept() {
			t.Errorf("%s: shared with its second side", brief(n))
		}
		a, sep, b = page.Split(m)
		spoil(m)
		wantNode(t, "the first side, when the node was written over", a, wasA)
		wantNode(t, "the second side, when the node was written over", b, wasB)
		if len(a.Recs) > 0 && sep == "spoilt" {
			t.Error("the entry between changed")
		}
	}
}

func TestJoinSharesNothing(t *testing.T) {
	for _, n := range odd() {
		for _, o := range []page.Node{{}, leaf(), n, leaf("a"), inner(nil, 1)} {
			a, b := copied(n), copied(o)
			j := page.Join(a, "sep", b)
			was := copied(j)
			spoil(a)
			wantNode(t, "a Join, when its first node was written over", j, was)
			spoil(b)
			wantNode(t, "a Join, when its second node was written over", j, was)
		}
	}
}

func TestPagesShareNothing(t *testing.T) {
	for _, n := range rights() {
		m := copied(n)
		b, _ := page.Encode(m)
		spoil(m)
		if !bytes.Equal(b, told(n)) {
			t.Errorf("%s: its page changed", brief(n))
		}
		m = copied(n)
		for i := range b {
			b[i] = 77
		}
		if again, e := page.Encode(m); e != api.OK || !bytes.Equal(again, told(n)) {
			t.Errorf("%s: a page that was written over is answered again", brief(n))
		}
	}
}

func TestDecodedNodesShareNothing(t *testing.T) {
	for _, n := range rights() {
		b := append(told(n), 1, 2, 3, 4)[:1024]
		m, _ := page.Decode(b)
		other, _ := page.Decode(b)
		spoil(other)
		wantNode(t, "a decoded node, when another one of its page was written over", m, n)
		if !bytes.Equal(b, told(n)) || !slices.Equal(b[1024:1028], []byte{1, 2, 3, 4}) {
			t.Errorf("%s: the bytes handed in changed", brief(n))
		}
		for i := range b {
			b[i] = 'z'
		}
		wantNode(t, "a decoded node, when its bytes were written over", m, n)
	}
}
