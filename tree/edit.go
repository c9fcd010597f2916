package tree

import (
	"slices"

	"tripwire/api"
	"tripwire/fault"
	"tripwire/page"
)

// edit is what a call is about to do. All of it is worked out ahead of the first write, so that a call that gives up has changed nothing.
type edit struct {
	tree  *Tree
	head  Head   // what the tree's becomes
	taken []int  // pages that are in use for it already
	laid  []step // nodes that are to be written
	gone  []int  // pages that are to be given back
}

// change works an edit out, and carries it out.
func (t *Tree) change(work func(x *edit)) api.Errno {
	x := &edit{tree: t, head: t.head}
	return fault.Undo(func() {
		work(x)
		x.write()
	}, x.back).Code
}

// take is a new page.
func (x *edit) take() int {
	n, e := x.tree.arena.Alloc()
	fault.Check(e)
	x.taken = append(x.taken, n)
	return n
}

// back gives back what was taken, the last one first, so that the next ones are taken in the same order.
func (x *edit) back() {
	for _, n := range slices.Backward(x.taken) {
		x.tree.arena.Free(n)
	}
}

func (x *edit) put(at int, n page.Node) { x.laid = append(x.laid, step{at: at, node: n}) }

func (x *edit) write() {
	var pages [][]byte
	for _, p := range x.laid {
		b, e := page.Encode(p.node)
		fault.Check(e)
		pages = append(pages, b)
	}
	for i, p := range x.laid {
		x.tree.arena.Store(p.at, pages[i])
	}
	for _, n := range x.gone {
		x.tree.arena.Free(n)
	}
	x.tree.head = x.head
}

func (x *edit) insert(s string) {
	way := x.tree.way(s)
	leaf := &way[len(way)-1].node
	i, there := page.Find(*leaf, s)
	if there {
		fault.Check(api.ErrThere)
	}
	if x.tree.arena.Left() < x.head.Height+1 {
		fault.Check(api.ErrQuota)
	}
	leaf.Recs = slices.Insert(leaf.Recs, i, s)
	x.head.Len++
	x.grow(way)
}

// grow lays the last node of a way. One that doesn't fit is laid in two, and the one above it has an entry more, or there is a new root.
func (x *edit) grow(way []step) {
	up, low := parted(way)
	if page.Size(low.node) <= api.PageSize {
		x.put(low.at, low.node)
		return
	}
	a, sep, b := page.Split(low.node)
	n := x.take()
	x.put(low.at, a)
	x.put(n, b)
	if len(up) == 0 {
		x.head.Root = x.take()
		x.head.Height++
		x.put(x.head.Root, page.Node{Recs: []string{sep}, Kids: []int{low.at, n}})
		return
	}
	up[len(up)-1].add(sep, n)
	x.grow(up)
}

// parted is a way's last step, and the way to it.
func parted(way []step) ([]step, step) {
	last := len(way) - 1
	return way[:last], way[last]
}

// add puts one more of the Kids behind the one with which the way goes on, and the entry between them.
func (p *step) add(sep string, n int) {
	p.node.Recs = slices.Insert(p.node.Recs, p.kid, sep)
	p.node.Kids = slices.Insert(p.node.Kids, p.kid+1, n)
}

func (x *edit) delete(s string) {
	way := x.tree.way(s)
	leaf := &way[len(way)-1].node
	i, there := page.Find(*leaf, s)
	if !there {
		fault.Check(api.ErrName)
	}
	leaf.Recs = slices.Delete(leaf.Recs, i, i+1)
	x.head.Len--
	x.shrink(way)
}

// shrink lays the last node of a way, which has become less, if the one above it doesn't lose it.
func (x *edit) shrink(way []step) {
	up, low := parted(way)
	if len(up) == 0 {
		x.settle(low)
		return
	}
	if x.lost(&up[len(up)-1], low) {
		x.shrink(up)
		return
	}
	x.put(low.at, low.node)
}

// lost takes a node with nothing left out of the one above it, or joins it with a neighbour; false, if it stays. Entries never go over to a neighbour: the one between them might become longer, and the node above not fit any more.
func (x *edit) lost(up *step, low step) bool {
	if len(low.node.Recs)+len(low.node.Kids) == 0 {
		x.gone = append(x.gone, low.at)
		up.cut(max(up.kid-1, 0), up.kid)
		return true
	}
	return x.joined(up, up.kid-1, low) || x.joined(up, up.kid, low)
}

// joined makes one node of low and its neighbour beyond the entry i of the node above; false, if there is none, or they don't fit.
func (x *edit) joined(up *step, i int, low step) bool {
	if i < 0 || i >= len(up.node.Recs) {
		return false
	}
	left, right := up.node.Kids[i], up.node.Kids[i+1]
	a, b := low.node, low.node
	if i < up.kid {
		a = x.tree.load(left, low.node.Leaf)
	} else {
		b = x.tree.load(right, low.node.Leaf)
	}
	n := page.Join(a, up.node.Recs[i], b)
	if page.Size(n) > api.PageSize {
		return false
	}
	x.put(left, n)
	x.gone = append(x.gone, right)
	up.cut(i, i+1)
	return true
}

// cut takes out one of the Kids, and the entry i, which an only one of the Kids hasn't beside it.
func (p *step) cut(i, kid int) {
	if len(p.node.Recs) > 0 {
		p.node.Recs = slices.Delete(p.node.Recs, i, i+1)
	}
	p.node.Kids = slices.Delete(p.node.Kids, kid, kid+1)
}

// settle lays the root. One with a single one of the Kids gives way to that, which may itself be such a node.
func (x *edit) settle(root step) {
	at, n := root.at, root.node
	for len(n.Kids) == 1 {
		x.gone = append(x.gone, at)
		at = n.Kids[0]
		x.head.Root = at
		x.head.Height--
		n = x.node(at)
	}
	if at == root.at {
		x.put(at, n)
	}
}

// node is the node of a page, as it will be.
func (x *edit) node(at int) page.Node {
	for _, p := range x.laid {
		if p.at == at {
			return p.node
		}
	}
	return x.tree.load(at, x.head.Height == 1)
}
