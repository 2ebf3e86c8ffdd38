package tree

import (
	"slices"

	"factotum/api"
	"factotum/node"
)

// half is the size below which a node that has become smaller is put together with one beside it.
const half = api.Page / 2

// change is a walk, and what is to be done to the tree's pages. All of it is known ahead of the first page that is written: so nothing has to be undone but pages that were taken.
type change struct {
	walk
	writes []step
	taken  []int
	// spare is pages that the tree needs no more.
	spare []int
}

// take is a page for a new node.
func (c *change) take() (int, api.Errno) {
	if last := len(c.spare) - 1; last >= 0 {
		page := c.spare[last]
		c.spare = c.spare[:last]
		return page, api.OK
	}
	page, e := c.w.Take()
	if e == api.OK {
		c.taken = append(c.taken, page)
	}
	return page, e
}

// write notes what a page is to be.
func (c *change) write(page int, n api.Node) {
	c.writes = append(c.writes, step{page: page, node: n})
}

// wayToLeaf is the way to the leaf where the key is; of the empty tree to a new one.
func (c *change) wayToLeaf(root int, key string) ([]step, api.Errno) {
	if root != empty {
		return c.way(root, key)
	}
	page, e := c.take()
	return []step{{page: page, node: api.Node{Leaf: true}}}, e
}

// put makes the tree one with the last node of the way as it is now, and answers its root; the one that it had, beside an error.
func (c *change) put(root int, way []step) (int, api.Errno) {
	now, e := c.settle(way)
	if e == api.OK {
		e = c.commit()
	}
	if e != api.OK {
		c.giveBack()
		return root, e
	}
	return now, api.OK
}

// giveBack drops the pages that were taken.
func (c *change) giveBack() {
	for _, page := range c.taken {
		c.w.Drop(page)
	}
}

// commit does what is to be done to the pages, all of it or nothing.
func (c *change) commit() api.Errno {
	if c.tangled() {
		return api.ErrCorrupt
	}
	pages := make([]string, len(c.writes))
	for i, s := range c.writes {
		page, e := node.Write(s.node)
		if e != api.OK {
			// Keys lay on the wrong side, so that nodes which are read don't go together.
			return api.ErrCorrupt
		}
		pages[i] = page
	}
	// The pages were read or taken, and none is there twice: so nothing is refused.
	for i, s := range c.writes {
		c.w.Write(s.page, pages[i])
	}
	for _, page := range c.spare {
		c.w.Drop(page)
	}
	return api.OK
}

// tangled says whether two things are to be done to one page, or a node goes on naming a page that is dropped: that page was in the tree twice.
func (c *change) tangled() bool {
	pages := slices.Clone(c.spare)
	for _, s := range c.writes {
		pages = append(pages, s.page)
		for _, kid := range s.node.Kids {
			if slices.Contains(c.spare, kid) {
				return true
			}
		}
	}
	slices.Sort(pages)
	return len(slices.Compact(pages)) < len(c.spare)+len(c.writes)
}

// settle brings the way's nodes, from the last one up as far as they change, to pages; it answers the root.
func (c *change) settle(way []step) (int, api.Errno) {
	for i := len(way) - 1; i > 0; i-- {
		goesOn, e := c.settleBelow(way[i], &way[i-1])
		if e != api.OK {
			return 0, e
		}
		if !goesOn {
			return way[0].page, api.OK
		}
	}
	return c.settleRoot(way[0])
}

// settleBelow brings a node to its page, or to two, or to none, and says whether the one above it has changed.
func (c *change) settleBelow(s step, above *step) (bool, api.Errno) {
	size := node.Size(s.node)
	switch {
	case without(s.node):
		c.spare = append(c.spare, s.page)
		above.lose(above.kid)
		return true, api.OK
	case size > api.Page:
		return true, c.split(s, above)
	case size < half && size < s.was:
		return c.gather(s, above)
	}
	c.write(s.page, s.node)
	return false, api.OK
}

// without says whether a node has neither pairs nor kids.
func without(n api.Node) bool { return len(n.Pairs) == 0 && len(n.Kids) == 0 }

// lose takes a kid out of the node, and a key beside it.
func (s *step) lose(kid int) {
	s.node.Kids = slices.Delete(s.node.Kids, kid, kid+1)
	if len(s.node.Keys) == 0 {
		return
	}
	// The first kid has no key ahead of it: then the one behind it goes.
	key := max(kid-1, 0)
	s.node.Keys = slices.Delete(s.node.Keys, key, key+1)
}

// split brings a node to its page and a new one, which stands in the node above it then.
func (c *change) split(s step, above *step) api.Errno {
	page, e := c.take()
	if e != api.OK {
		return e
	}
	left, right, key := node.Split(s.node)
	c.write(s.page, left)
	c.write(page, right)
	above.node.Keys = slices.Insert(above.node.Keys, above.kid, key)
	above.node.Kids = slices.Insert(above.node.Kids, above.kid+1, page)
	return api.OK
}

// settleRoot brings the root to its page, or lets the tree become deeper or less deep.
func (c *change) settleRoot(s step) (int, api.Errno) {
	switch {
	case without(s.node):
		c.spare = append(c.spare, s.page)
		return empty, api.OK
	case len(s.node.Kids) == 1:
		c.spare = append(c.spare, s.page)
		return s.node.Kids[0], api.OK
	case node.Size(s.node) > api.Page:
		return c.raise(s)
	}
	c.write(s.page, s.node)
	return s.page, api.OK
}

// raise splits the root, and makes a new one above the parts.
func (c *change) raise(s step) (int, api.Errno) {
	page, e := c.take()
	if e != api.OK {
		return 0, e
	}
	root := step{page: page, node: api.Node{Kids: []int{s.page}}}
	if e := c.split(s, &root); e != api.OK {
		return 0, e
	}
	c.write(root.page, root.node)
	return root.page, api.OK
}

// couple is two kids of one node, side by side.
type couple struct {
	left, right int
	// between is the number of the key between them.
	between int
	// node is both of them as one.
	node api.Node
}

// gather puts a node together with one beside it, if both fit a page. Of an inner node that has no key left, and none beside it that it fits with, it lets the one beside it give some of its keys.
func (c *change) gather(s step, above *step) (bool, api.Errno) {
	var greater []couple
	for between := above.kid - 1; between <= above.kid; between++ {
		if between < 0 || between >= len(above.node.Keys) {
			continue
		}
		b, same, e := c.couple(s, above, between)
		if e != api.OK {
			return false, e
		}
		if !same {
			continue
		}
		if _, e := node.Write(b.node); e == api.OK {
			c.merge(b, above)
			return true, api.OK
		}
		greater = append(greater, b)
	}
	if len(s.node.Kids) == 1 && len(greater) > 0 {
		c.share(greater[0], above)
		return true, api.OK
	}
	c.write(s.page, s.node)
	return false, api.OK
}

// couple is the node and the one on the other side of a key; false, if that is of another kind.
func (c *change) couple(s step, above *step, between int) (couple, bool, api.Errno) {
	left, right := above.node.Kids[between], above.node.Kids[between+1]
	other := left
	if between == above.kid {
		other = right
	}
	// It lies on the node's level, which was read: so that is none too many.
	n, e := c.read(other, 1)
	if e != api.OK {
		return couple{}, false, e
	}
	if n.Leaf != s.node.Leaf {
		return couple{}, false, api.OK
	}
	a, b := n, s.node
	if between == above.kid {
		a, b = b, a
	}
	return couple{left, right, between, node.Join(a, b, above.node.Keys[between])}, true, api.OK
}

// merge brings two nodes to the left one's page.
func (c *change) merge(b couple, above *step) {
	c.write(b.left, b.node)
	c.spare = append(c.spare, b.right)
	above.lose(b.between + 1)
}

// share brings two nodes to both pages, each with about as much as the other one.
func (c *change) share(b couple, above *step) {
	left, right, key := node.Split(b.node)
	c.write(b.left, left)
	c.write(b.right, right)
	above.node.Keys[b.between] = key
}
