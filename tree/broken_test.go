package tree_test

import (
	"strconv"
	"strings"
	"testing"

	"factotum/api"
	"factotum/node"
	"factotum/space"
	"factotum/tree"
)

func TestRootsThatAreNone(t *testing.T) {
	w := begun(t, 10)
	laid(t, w, leafOf("a"), leafOf("b"), leafOf("c"))
	if e := w.Drop(2); e != api.OK {
		t.Fatal(e)
	}
	for _, root := range []int{-1, -160, 2, 4, 9, 10, 159, 160, 65535, 1 << 40, -1 << 63, 1<<63 - 1} {
		wantAll(t, w, root, api.ErrIndex)
	}
	for _, bytes := range []string{"", "\x03", "\x01\x01", "\x02\x00", "\x01\x01\x00\x00", "\x02\x01\x00\x01\x01a\x00\x00"} {
		if e := w.Write(1, bytes+strings.Repeat("\x00", api.Page-len(bytes))); e != api.OK {
			t.Fatal(e)
		}
		wantAll(t, w, 1, api.ErrCorrupt)
	}
}

// TestKidsThatAreNone: a way that leads to such a page has its error, and others haven't.
func TestKidsThatAreNone(t *testing.T) {
	for _, c := range []struct {
		kid  int
		want api.Errno
	}{{9, api.ErrIndex}, {300, api.ErrIndex}, {3, api.ErrCorrupt}} {
		w := begun(t, 10)
		laid(t, w, innerOf(c.kid, "l", 2), leafOf("l", "m"), leafOf("zz"))
		if e := w.Write(3, strings.Repeat("x", api.Page)); e != api.OK {
			t.Fatal(e)
		}
		wantAll(t, w, 1, c.want)
		wantGet(t, w, 1, "m", "of m", true, api.OK)
		wantScan(t, w, 1, "l", "", "l", "m")
		wantScan(t, w, 1, "m", "n", "m")
		if root := mustPut(t, w, 1, "n", ""); root != 1 {
			t.Error(root)
		}
		// What is left is so small that it is looked at what lies beside it: that can't be read.
		was := seen(w)
		if now, there, e := tree.Delete(w, 1, "l"); now != 1 || there || e != c.want || seen(w) != was {
			t.Error("delete:", now, there, e)
		}
	}
}

// TestScanReadsNoMore: what lies outside of what is asked for isn't read.
func TestScanReadsNoMore(t *testing.T) {
	w := begun(t, 10)
	laid(t, w, innerOf(9, "d", 2, "h", 9), leafOf("d", "e"))
	wantScan(t, w, 1, "d", "h", "d", "e")
	wantScan(t, w, 1, "e", "f", "e")
	for _, c := range [][2]string{{"c", "h"}, {"d", "i"}, {"d", "h\x00"}, {"d", ""}, {"", "h"}} {
		if l, e := tree.Scan(w, 1, c[0], c[1]); len(l) != 0 || e != api.ErrIndex {
			t.Error(c, l, e)
		}
	}
}

// TestOwnParent: ways that come round and round.
func TestOwnParent(t *testing.T) {
	w := begun(t, 10)
	laid(t, w, innerOf(1, "x", 2), leafOf("x", "y"))
	wantAll(t, w, 1, api.ErrCorrupt)
	wantGet(t, w, 1, "y", "of y", true, api.OK)
	wantScan(t, w, 1, "x", "", "x", "y")

	w = begun(t, 10)
	laid(t, w, innerOf(4, "h", 2), innerOf(4, "t", 3), leafOf("u"), innerOf(1, "d", 2))
	for _, root := range []int{1, 2, 4} {
		was := seen(w)
		for range 2 {
			wantSound(t, w, root, 0, 0, false)
			if l, e := tree.Scan(w, root, "", ""); len(l) != 0 || e != api.ErrCorrupt {
				t.Error(root, l, e)
			}
			if e := tree.Drop(w, root); e != api.ErrCorrupt {
				t.Error(root, e)
			}
			wantGet(t, w, root, "a", "", false, api.ErrCorrupt)
			wantGet(t, w, root, "u", "of u", true, api.OK)
		}
		if seen(w) != was {
			t.Error(root, "something has changed")
		}
	}
}

// TestOneKidTwice: one page in two places. Who looks at it comes by it twice.
func TestOneKidTwice(t *testing.T) {
	w := begun(t, 10)
	laid(t, w, innerOf(2, "h", 3, "p", 2), leafOf("q"), leafOf("i"))
	wantSound(t, w, 1, 0, 0, false)
	wantScan(t, w, 1, "", "", "q", "i", "q")
	wantGet(t, w, 1, "q", "of q", true, api.OK)
	wantGet(t, w, 1, "r", "", false, api.OK)
	// The page can't be dropped, as it is needed in its other place.
	was := seen(w)
	if now, there, e := tree.Delete(w, 1, "q"); now != 1 || there || e != api.ErrCorrupt || seen(w) != was {
		t.Error("delete:", now, there, e)
	}
	if e := tree.Drop(w, 1); e != api.OK || w.Used() != 1 {
		t.Error("drop:", e, w.Used())
	}

	// An inner node that has no key left, and only its own parent beside it.
	w = begun(t, 10)
	laid(t, w, innerOf(2, "x", 5), innerOf(3, "m", 2), innerOf(4, "f", 5), leafOf("a"), leafOf("x"))
	was = seen(w)
	if now, there, e := tree.Delete(w, 1, "a"); now != 1 || there || e != api.ErrCorrupt || seen(w) != was {
		t.Error("delete:", now, there, e)
	}
	wantSound(t, w, 1, 0, 0, false)

	// An inner node that is put together with what lies beside it, as is its parent, with the same.
	for _, nodes := range [][]api.Node{
		{innerOf(2, "r", 4), innerOf(3, "m", 4), innerOf(5, "f", 6), innerOf(7, "t", 8), leafOf("a"), leafOf("g"), leafOf("s"), leafOf("u")},
		{innerOf(4, "g", 2), innerOf(4, "m", 3), innerOf(6, "y", 5), innerOf(7, "d", 8), leafOf("z"), leafOf("n"), leafOf("b"), leafOf("e")},
	} {
		w = begun(t, 10)
		laid(t, w, nodes...)
		was = seen(w)
		key := nodes[4].Pairs[0].Key
		if now, there, e := tree.Delete(w, 1, key); now != 1 || there || e != api.ErrCorrupt || seen(w) != was {
			t.Error("delete:", now, there, e)
		}
	}
}

// TestUnsound: what else isn't sound, and what is near it and is.
func TestUnsound(t *testing.T) {
	for _, c := range []struct {
		what         string
		pages, depth int
		nodes        []api.Node
	}{
		{"a leaf", 1, 1, []api.Node{leafOf("a")}},
		{"a leaf without a pair", 0, 0, []api.Node{leafOf()}},
		{"two leaves", 3, 2, []api.Node{innerOf(2, "b", 3), leafOf("a"), leafOf("b")}},
		{"a key at its end", 3, 2, []api.Node{innerOf(2, "b", 3), leafOf("a", "az\xff"), leafOf("b")}},
		{"the key itself ahead of it", 0, 0, []api.Node{innerOf(2, "b", 3), leafOf("a", "b"), leafOf("c")}},
		{"a key behind it, on its left", 0, 0, []api.Node{innerOf(2, "b", 3), leafOf("a", "c"), leafOf("d")}},
		{"a key ahead of it, on its right", 0, 0, []api.Node{innerOf(2, "b", 3), leafOf("a"), leafOf("aa", "c")}},
		{"an empty leaf on the left", 0, 0, []api.Node{innerOf(2, "b", 3), leafOf(), leafOf("b")}},
		{"an empty leaf on the right", 0, 0, []api.Node{innerOf(2, "b", 3), leafOf("a"), leafOf()}},
		{"a root without a key", 0, 0, []api.Node{innerOf(2), leafOf("a")}},
		{"an inner node without a key", 0, 0, []api.Node{innerOf(2, "c", 3), innerOf(4, "b", 5), innerOf(6), leafOf("a"), leafOf("b"), leafOf("c")}},
		{"three levels", 7, 3, []api.Node{innerOf(2, "c", 3), innerOf(4, "b", 5), innerOf(6, "d", 7), leafOf("a"), leafOf("b"), leafOf("c"), leafOf("d")}},
		{"a leaf less deep, behind", 0, 0, []api.Node{innerOf(2, "c", 3), innerOf(4, "b", 5), leafOf("c"), leafOf("a"), leafOf("b")}},
		{"a leaf less deep, ahead", 0, 0, []api.Node{innerOf(2, "c", 3), leafOf("a"), innerOf(4, "d", 5), leafOf("c"), leafOf("d")}},
		{"a key on the wrong side of the root's", 0, 0, []api.Node{innerOf(2, "c", 3), innerOf(4, "b", 5), innerOf(6, "d", 7), leafOf("a"), leafOf("b", "c"), leafOf("c"), leafOf("d")}},
		{"a key ahead of the root's, behind it", 0, 0, []api.Node{innerOf(2, "c", 3), innerOf(4, "b", 5), innerOf(6, "d", 7), leafOf("a"), leafOf("b"), leafOf("bb", "c"), leafOf("d")}},
		{"an inner key behind the root's", 0, 0, []api.Node{innerOf(2, "c", 3), innerOf(4, "x", 5), innerOf(6, "d", 7), leafOf("a"), leafOf("y"), leafOf("c"), leafOf("d")}},
		{"an inner key ahead of the root's", 0, 0, []api.Node{innerOf(2, "c", 3), innerOf(4, "b", 5), innerOf(6, "bb", 7), leafOf("a"), leafOf("b"), leafOf("ba"), leafOf("c")}},
		{"one leaf twice", 0, 0, []api.Node{innerOf(2, "b", 2), leafOf("a")}},
		{"one leaf in two nodes", 0, 0, []api.Node{innerOf(2, "c", 3), innerOf(4, "b", 5), innerOf(4, "d", 6), leafOf("a"), leafOf("b"), leafOf("d")}},
		{"a kid that isn't used", 0, 0, []api.Node{innerOf(2, "b", 9), leafOf("a")}},
		{"a kid that isn't there", 0, 0, []api.Node{innerOf(2, "b", 65535), leafOf("a")}},
	} {
		w := begun(t, 12)
		laid(t, w, c.nodes...)
		n, d, ok := tree.Sound(w, 1)
		if n != c.pages || d != c.depth || ok != (c.pages > 0) {
			t.Error(c.what, n, d, ok)
		}
		poke(t, w, 1)
	}
}

// poke asks for this and that of what may be no sound tree: what is refused changes nothing, and all comes to an end.
func poke(t *testing.T, w *space.Work, root int) {
	t.Helper()
	for _, key := range []string{"", "a", "az", "b", "bb", "c", "d", "x", "y", strings.Repeat("z", 32)} {
		was := seen(w)
		v, there, e := tree.Get(w, root, key)
		if e != api.OK && (v != "" || there) {
			t.Error("get:", v, there, e)
		}
		tree.Scan(w, root, key, "")
		if seen(w) != was {
			t.Error("get or scan: something has changed")
		}
		now, e := tree.Put(w, root, key, strings.Repeat("v", 40))
		if e != api.OK && (now != root || seen(w) != was) {
			t.Error("put:", now, e)
		}
		if e == api.OK {
			wantGet(t, w, now, key, strings.Repeat("v", 40), true, api.OK)
		}
		root, was = now, seen(w)
		now, there, e = tree.Delete(w, root, key)
		if e != api.OK && (now != root || there || seen(w) != was) || e == api.OK && !there && seen(w) != was {
			t.Error("delete:", now, there, e)
		}
		root = now
	}
	was, used := seen(w), w.Used()
	if e := tree.Drop(w, root); e != api.OK && seen(w) != was || e == api.OK && root != 0 && w.Used() >= used {
		t.Error("drop:", e)
	}
}

// chain lays so many levels, each with one kid, or with one kid twice; the last one is a leaf.
func chain(t *testing.T, w *space.Work, levels int, twice bool) {
	t.Helper()
	var nodes []api.Node
	for i := 1; i < levels; i++ {
		n := innerOf(i + 1)
		if twice {
			n = innerOf(i+1, "m", i+1)
		}
		nodes = append(nodes, n)
	}
	laid(t, w, append(nodes, leafOf("a", "k"))...)
}

func TestLevels(t *testing.T) {
	w := begun(t, 80)
	chain(t, w, 40, false)
	wantGet(t, w, 1, "k", "of k", true, api.OK)
	wantScan(t, w, 1, "", "", "a", "k")
	if root := mustPut(t, w, 1, "b", ""); root != 1 {
		t.Error(root)
	}
	if root := mustDelete(t, w, 1, "a"); root != 1 {
		t.Error(root)
	}
	wantScan(t, w, 1, "", "", "b", "k")
	wantSound(t, w, 1, 0, 0, false)
	if e := tree.Drop(w, 1); e != api.OK || w.Used() != 1 {
		t.Error(e, w.Used())
	}

	for _, levels := range []int{41, 42, 70} {
		w = begun(t, 80)
		chain(t, w, levels, false)
		wantAll(t, w, 1, api.ErrCorrupt)
		wantGet(t, w, levels-39, "k", "of k", true, api.OK)
	}

	w = begun(t, 80)
	chain(t, w, 40, true)
	wantGet(t, w, 1, "k", "of k", true, api.OK)
	if l, e := tree.Scan(w, 1, "", ""); len(l) != 0 || e != api.ErrCorrupt {
		t.Error(len(l), e)
	}
	was := seen(w)
	if e := tree.Drop(w, 1); e != api.ErrCorrupt || seen(w) != was {
		t.Error(e)
	}
	wantSound(t, w, 1, 0, 0, false)

	w = begun(t, 80)
	chain(t, w, 41, true)
	wantAll(t, w, 1, api.ErrCorrupt)
}

// TestLevelsInOrder: a page that can't be read is told ahead of a level too many.
func TestLevelsInOrder(t *testing.T) {
	w := begun(t, 80)
	chain(t, w, 41, false)
	if e := w.Drop(41); e != api.OK {
		t.Fatal(e)
	}
	wantAll(t, w, 1, api.ErrIndex)
}

// fan is an inner node with one kid, so many times.
func fan(kids, kid int) api.Node {
	n := innerOf(kid)
	for i := 1; i < kids; i++ {
		n.Keys = append(n.Keys, string([]byte{byte(i)}))
		n.Kids = append(n.Kids, kid)
	}
	return n
}

func TestReads(t *testing.T) {
	// 1 + 27 * (1 + 36) are 1000 pages.
	w := begun(t, 10)
	laid(t, w, fan(27, 2), fan(36, 3), leafOf("z"))
	if l, e := tree.Scan(w, 1, "", ""); len(l) != 27*36 || e != api.OK {
		t.Error(len(l), e)
	}
	wantSound(t, w, 1, 0, 0, false)
	if e := tree.Drop(w, 1); e != api.OK || w.Used() != 1 {
		t.Error(e, w.Used())
	}
	// 1 + 20 * (1 + 49) are 1001.
	w = begun(t, 10)
	laid(t, w, fan(20, 2), fan(49, 3), leafOf("z"))
	was := seen(w)
	if l, e := tree.Scan(w, 1, "", ""); len(l) != 0 || e != api.ErrCorrupt {
		t.Error(len(l), e)
	}
	if e := tree.Drop(w, 1); e != api.ErrCorrupt {
		t.Error(e)
	}
	wantSound(t, w, 1, 0, 0, false)
	wantGet(t, w, 1, "z", "of z", true, api.OK)
	if seen(w) != was {
		t.Error("something has changed")
	}
	// Each call counts anew.
	for range 3 {
		if l, e := tree.Scan(w, 1, "\x04", ""); len(l) != 16*45 || e != api.OK {
			t.Error(len(l), e)
		}
	}
}

// TestWrongSide: a leaf that is split, whose keys don't go between its parent's.
func TestWrongSide(t *testing.T) {
	w := begun(t, 10)
	full := api.Node{Leaf: true}
	for _, k := range []string{"p", "q", "r", "s", "t"} {
		full.Pairs = append(full.Pairs, api.Pair{Key: k, Value: strings.Repeat("v", 40)})
	}
	laid(t, w, innerOf(2, "m", 3), full, leafOf("n"))
	was := seen(w)
	if now, e := tree.Put(w, 1, "a", strings.Repeat("v", 40)); now != 1 || e != api.ErrCorrupt || seen(w) != was {
		t.Error("put:", now, e)
	}
	// A leaf stays as it is, if its pairs and those beside it aren't in order.
	w = begun(t, 10)
	laid(t, w, innerOf(2, "m", 3), leafOf("a", "z"), leafOf("n"))
	if root := mustDelete(t, w, 1, "a"); root != 1 {
		t.Error(root)
	}
	wantScan(t, w, 1, "", "", "z", "n")
}

// TestOtherKind: what lies beside a leaf is no leaf.
func TestOtherKind(t *testing.T) {
	w := begun(t, 10)
	laid(t, w, innerOf(2, "m", 3), leafOf("a", "b"), innerOf(4, "p", 5), leafOf("m"), leafOf("p"))
	if root := mustDelete(t, w, 1, "a"); root != 1 {
		t.Error(root)
	}
	wantScan(t, w, 1, "", "", "b", "m", "p")
	if w.Used() != 6 {
		t.Error(w.Used())
	}
	wantSound(t, w, 1, 0, 0, false)
	// An inner node that has no key left, and a leaf beside it.
	w = begun(t, 10)
	laid(t, w, innerOf(2, "m", 3), innerOf(4, "f", 5), leafOf("m"), leafOf("a"), leafOf("g"))
	if root := mustDelete(t, w, 1, "a"); root != 1 || w.Used() != 5 {
		t.Error(root, w.Used())
	}
	wantScan(t, w, 1, "", "", "g", "m")
	// Behind the last pair of a leaf its parents go too that have nothing else.
	w = begun(t, 10)
	laid(t, w, innerOf(2, "m", 3), innerOf(4), leafOf("m"), leafOf("a"))
	if root := mustDelete(t, w, 1, "a"); root != 3 || w.Used() != 2 {
		t.Error(root, w.Used())
	}
	w = begun(t, 10)
	laid(t, w, innerOf(2), innerOf(3), leafOf("a"))
	if root := mustDelete(t, w, 1, "a"); root != 0 || w.Used() != 1 {
		t.Error(root, w.Used())
	}
}

// TestDrawnPages: drawn nodes whose kids are drawn pages: all comes to an end, and what is refused changes nothing.
func TestDrawnPages(t *testing.T) {
	d := &draws{7}
	sound := 0
	for range 1500 {
		pages := 2 + d.next(8)
		w := begun(t, pages+d.next(4))
		for range pages - 1 {
			at, e := w.Take()
			if e != api.OK {
				t.Fatal(e)
			}
			w.Write(at, page(t, drawn(d, pages)))
		}
		if d.next(4) == 0 {
			w.Drop(1 + d.next(pages))
		}
		root := 1 + d.next(pages)
		n, depth, ok := tree.Sound(w, root)
		if p := plainSound(w, root, 1, map[int]int{}, nil, nil); ok != (p != nil) || ok && (n != p.pages || depth != p.depth) {
			t.Fatal(root, n, depth, ok, p)
		}
		if ok {
			sound++
		}
		poke(t, w, root)
	}
	if sound < 50 {
		t.Error("too few are sound:", sound)
	}
}

// drawn is a drawn node, with short keys, and kids among the first pages.
func drawn(d *draws, pages int) api.Node {
	var keys []string
	for c := 'a'; c <= 'f'; c++ {
		if d.next(4) == 0 {
			keys = append(keys, string(c))
		}
	}
	if d.next(3) > 0 {
		n := leafOf(keys...)
		for i := range n.Pairs {
			n.Pairs[i].Value = strings.Repeat("v", 40*d.next(2))
		}
		return n
	}
	n := api.Node{Keys: keys}
	for range len(keys) + 1 {
		n.Kids = append(n.Kids, 1+d.next(pages))
	}
	return n
}

// told is what a sound tree tells of itself.
type told struct {
	pages, depth int
}

// plainSound is the second reading of what is sound: nil, if it isn't. Each key is held against all keys that its way came by.
func plainSound(w *space.Work, at, level int, met map[int]int, notAhead, ahead []string) *told {
	s, e := w.Read(at)
	n, f := node.Read(s)
	if e != api.OK || f != api.OK || met[at] > 0 || level > 40 {
		return nil
	}
	met[at]++
	if n.Leaf {
		for _, p := range n.Pairs {
			for _, k := range notAhead {
				if p.Key < k {
					return nil
				}
			}
			for _, k := range ahead {
				if p.Key >= k {
					return nil
				}
			}
		}
		if len(n.Pairs) == 0 {
			return nil
		}
		return &told{1, 1}
	}
	if len(n.Keys) == 0 {
		return nil
	}
	all := &told{pages: 1}
	for i, kid := range n.Kids {
		low, high := notAhead, ahead
		if i > 0 {
			low = append(append([]string{}, notAhead...), n.Keys[i-1])
		}
		if i < len(n.Keys) {
			high = append(append([]string{}, ahead...), n.Keys[i])
		}
		part := plainSound(w, kid, level+1, met, low, high)
		if part == nil || all.depth > 0 && all.depth != part.depth+1 {
			return nil
		}
		all.pages, all.depth = all.pages+part.pages, part.depth+1
	}
	return all
}

// shape is how a tree branches: its kids, or none of a leaf.
type shape []shape

func times(n int, s shape) shape {
	var l shape
	for range n {
		l = append(l, s)
	}
	return l
}

// builder lays a sound tree of a shape, each leaf with one pair of the greatest key.
type builder struct {
	t      *testing.T
	w      *space.Work
	leaves int
}

// key is the key of a leaf: its first byte is another one for those of the first kid of the first kids, and behind the sixth one.
func (b *builder) key(leaf int) string {
	first := "c"
	if leaf < 2 {
		first = "a"
	} else if leaf < 6 {
		first = "b"
	}
	return first + strconv.Itoa(1000+leaf) + strings.Repeat("k", 27)
}

// between is a key between a leaf and the one ahead of it, as short as can be where their first bytes aren't the same.
func (b *builder) between(leaf int) string {
	if b.key(leaf)[0] != b.key(leaf - 1)[0] {
		return b.key(leaf)[:1]
	}
	return b.key(leaf)
}

func (b *builder) build(s shape) int {
	at, e := b.w.Take()
	if e != api.OK {
		b.t.Fatal(e)
	}
	n := api.Node{Leaf: len(s) == 0}
	if n.Leaf {
		n.Pairs = []api.Pair{{Key: b.key(b.leaves), Value: "v"}}
		b.leaves++
	}
	for i, kid := range s {
		if i > 0 {
			n.Keys = append(n.Keys, b.between(b.leaves))
		}
		n.Kids = append(n.Kids, b.build(kid))
	}
	b.w.Write(at, page(b.t, n))
	return at
}

// TestDeleteNeedsPages: a leaf goes, and the inner node above it has no key left; the one beside it gives it some, so that a longer key stands between them, for which no room is left in the nodes above.
func TestDeleteNeedsPages(t *testing.T) {
	leaf, two := shape(nil), times(2, nil)
	first := append(shape{times(2, leaf), times(9, leaf)}, times(7, two)...)
	for _, c := range []struct {
		beside, left, more int
		want               api.Errno
	}{
		{7, 0, 0, api.ErrFull}, {7, 1, 0, api.ErrFull}, {7, 2, 2, api.OK}, {7, 3, 2, api.OK}, {6, 0, 0, api.OK}, {6, 1, 0, api.OK},
	} {
		w := begun(t, api.Pages)
		b := &builder{t: t, w: w}
		root := b.build(append(shape{first}, times(c.beside, times(2, two))...))
		pages, depth, ok := tree.Sound(w, root)
		if !ok || depth != 4 {
			t.Fatal(pages, depth, ok)
		}
		for w.Used() < api.Pages-c.left {
			w.Take()
		}
		was := seen(w)
		now, there, e := tree.Delete(w, root, b.key(0))
		if e != c.want || there != (e == api.OK) {
			t.Fatal(c, there, e)
		}
		if e != api.OK {
			if now != root || seen(w) != was {
				t.Error(c, "something has changed")
			}
			continue
		}
		if n, _, ok := tree.Sound(w, now); !ok || n != pages+c.more {
			t.Error(c, pages, n, ok)
		}
		for i := range b.leaves {
			_, there, e := tree.Get(w, now, b.key(i))
			if there != (i > 0) || e != api.OK {
				t.Error(c, i, there, e)
			}
		}
	}
}

// TestPutFull: one page too few for a split, and for the root above its parts.
func TestPutFull(t *testing.T) {
	w := begun(t, 1)
	wantFull(t, w, 0, "a")
	for pages := 2; pages <= 3; pages++ {
		w := begun(t, pages)
		w.SetHead("head")
		root := 0
		for i := range 5 {
			root = mustPut(t, w, root, strconv.Itoa(i), strings.Repeat("v", 40))
		}
		wantFull(t, w, root, "a")
		// A greater value, and a pair less: both need no page.
		root = mustPut(t, w, root, "1", "")
		root = mustPut(t, w, root, "a", "v")
		root = mustDelete(t, w, root, "2")
		wantScan(t, w, root, "", "", "0", "1", "3", "4", "a")
	}
}

func wantFull(t *testing.T, w *space.Work, root int, key string) {
	t.Helper()
	was := seen(w)
	if now, e := tree.Put(w, root, key, strings.Repeat("v", 40)); now != root || e != api.ErrFull {
		t.Error("put:", now, e)
	}
	if seen(w) != was {
		t.Error("something has changed")
	}
}
