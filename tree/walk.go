package tree

import (
	"tripwire/api"
	"tripwire/fault"
	"tripwire/page"
)

// read is the node of a page. It must be a leaf just where the height says so: by that each way down ends, also where a head is none of these pages.
func (t *Tree) read(at int, leaf bool) (page.Node, api.Errno) {
	b, e := t.arena.Load(at)
	if e != api.OK {
		return page.Node{}, e
	}
	n, e := page.Decode(b)
	if e == api.OK && n.Leaf != leaf {
		return page.Node{}, api.ErrForm
	}
	return n, e
}

// load is read for those who are caught.
func (t *Tree) load(at int, leaf bool) page.Node {
	n, e := t.read(at, leaf)
	fault.Check(e)
	return n
}

// step is a node on the way from the root to a leaf, and with which of its Kids the way goes on.
type step struct {
	at   int
	node page.Node
	kid  int
}

// way is the nodes from the root to the leaf where an entry stands, or would stand.
func (t *Tree) way(s string) []step {
	var l []step
	at := t.head.Root
	for range t.head.Height - 1 {
		n := t.load(at, false)
		k := page.Kid(n, s)
		l = append(l, step{at: at, node: n, kid: k})
		at = n.Kids[k]
	}
	return append(l, step{at: at, node: t.load(at, true)})
}

// through tells all nodes but those whose entries are all below from, each ahead of those below it, till it is enough. It answers errors rather than to stop, as the stops of what is handed in must go through.
func (t *Tree) through(from string, tell func(at int, n page.Node), enough func() bool) api.Errno {
	left := api.MaxPages // a tree has no more nodes: pages that lead back to themselves are none
	var visit func(at, height int) api.Errno
	visit = func(at, height int) api.Errno {
		if left == 0 {
			return api.ErrForm
		}
		left--
		n, e := t.read(at, height == 1)
		if e != api.OK {
			return e
		}
		tell(at, n)
		if n.Leaf {
			return api.OK
		}
		for _, k := range n.Kids[page.Kid(n, from):] {
			if e := visit(k, height-1); e != api.OK || enough() {
				return e
			}
		}
		return api.OK
	}
	return visit(t.head.Root, t.head.Height)
}

// walk is an Each, and whether it has come to its end.
type walk struct {
	from, to string
	f        func(s string) bool
	over     bool
}

func (w *walk) enough() bool { return w.over }

// tell tells the entries of a leaf.
func (w *walk) tell(_ int, n page.Node) {
	if !n.Leaf {
		return
	}
	first, _ := page.Find(n, w.from)
	for _, s := range n.Recs[first:] {
		if w.to != "" && s >= w.to || !w.f(s) {
			w.over = true
			return
		}
	}
}
