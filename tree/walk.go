package tree

import (
	"slices"

	"factotum/api"
	"factotum/node"
	"factotum/space"
)

// walk reads a tree's nodes, and counts them.
type walk struct {
	w     *space.Work
	reads int
}

// read is the node of a page, on a level; the root's is 1.
func (k *walk) read(page, level int) (api.Node, api.Errno) {
	s, e := k.w.Read(page)
	if e != api.OK {
		return api.Node{}, e
	}
	n, e := node.Read(s)
	if e != api.OK {
		return api.Node{}, e
	}
	k.reads++
	if level > maxLevels || k.reads > maxReads {
		return api.Node{}, api.ErrCorrupt
	}
	return n, api.OK
}

// step is a node on the way from the root to a leaf.
type step struct {
	page int
	node api.Node
	// kid is the number of the kid where the way goes on.
	kid int
	// was is the node's size when it was read.
	was int
}

// way is the nodes from the root to the leaf where the key is.
func (k *walk) way(root int, key string) ([]step, api.Errno) {
	var way []step
	for page := root; ; {
		n, e := k.read(page, len(way)+1)
		if e != api.OK {
			return nil, e
		}
		kid := node.Child(n, key)
		way = append(way, step{page: page, node: n, kid: kid, was: node.Size(n)})
		if n.Leaf {
			return way, api.OK
		}
		page = n.Kids[kid]
	}
}

// look is a look at a tree: a walk, and what it came by.
type look struct {
	walk
	pages []int
	pairs []api.Pair
	// depth is the leaves' level, 0 as long as there was none.
	depth int
}

// over looks at all leaves that may have pairs from a key up to another one.
func (l *look) over(root int, from, to string) api.Errno {
	if root == empty {
		return api.OK
	}
	return l.overFrom(root, 1, from, to)
}

func (l *look) overFrom(page, level int, from, to string) api.Errno {
	n, e := l.read(page, level)
	if e != api.OK {
		return e
	}
	l.meet(page)
	for _, p := range n.Pairs {
		if within(p.Key, from, to) {
			l.pairs = append(l.pairs, p)
		}
	}
	for i := node.Child(n, from); i < len(n.Kids); i++ {
		// What lies behind a key that isn't ahead of to isn't either.
		if i > 0 && !within(n.Keys[i-1], "", to) {
			break
		}
		if e := l.overFrom(n.Kids[i], level+1, from, to); e != api.OK {
			return e
		}
	}
	return api.OK
}

// meet notes a page, and says whether it is a new one.
func (l *look) meet(page int) bool {
	if slices.Contains(l.pages, page) {
		return false
	}
	l.pages = append(l.pages, page)
	return true
}

// within says whether a key isn't ahead of from, and is ahead of to; of an empty one all are.
func within(key, from, to string) bool { return from <= key && (to == "" || key < to) }

// sound looks at the whole tree, and says whether it is sound.
func (l *look) sound(root int) bool {
	return root == empty || l.soundFrom(root, 1, "", "")
}

func (l *look) soundFrom(page, level int, from, to string) bool {
	n, e := l.read(page, level)
	if e != api.OK || !l.meet(page) {
		return false
	}
	if n.Leaf {
		return l.soundLeaf(n.Pairs, level, from, to)
	}
	if len(n.Keys) == 0 {
		return false
	}
	for i, kid := range n.Kids {
		low, high := from, to
		if i > 0 {
			low = n.Keys[i-1]
		}
		if i < len(n.Keys) {
			high = n.Keys[i]
		}
		// No leaf may be empty: so keys from which nothing is left up to the next bound are found below.
		if !l.soundFrom(kid, level+1, low, high) {
			return false
		}
	}
	return true
}

func (l *look) soundLeaf(pairs []api.Pair, level int, from, to string) bool {
	if l.depth == 0 {
		l.depth = level
	}
	if level != l.depth || len(pairs) == 0 {
		return false
	}
	// The pairs are in order, so the first and the last one tell of all.
	return within(pairs[0].Key, from, to) && within(pairs[len(pairs)-1].Key, from, to)
}
