package tree_test

import (
	"slices"
	"strconv"
	"strings"
	"testing"

	"factotum/api"
	"factotum/space"
	"factotum/tree"
)

// draws is a row of numbers that looks like none, and is the same each time.
type draws struct{ x uint64 }

func (d *draws) next(n int) int {
	d.x = d.x*6364136223846793005 + 1442695040888963407
	return int(d.x >> 33 % uint64(n))
}

// plain is the second reading: a tree is a list of pairs in order.
type plain struct{ pairs []api.Pair }

func (p *plain) find(key string) (int, bool) {
	for i, q := range p.pairs {
		if q.Key >= key {
			return i, q.Key == key
		}
	}
	return len(p.pairs), false
}

func (p *plain) put(key, value string) {
	i, there := p.find(key)
	if there {
		p.pairs[i].Value = value
		return
	}
	p.pairs = slices.Insert(p.pairs, i, api.Pair{Key: key, Value: value})
}

func (p *plain) cut(key string) bool {
	i, there := p.find(key)
	if there {
		p.pairs = slices.Delete(p.pairs, i, i+1)
	}
	return there
}

func (p *plain) scan(from, to string) []api.Pair {
	var l []api.Pair
	for _, q := range p.pairs {
		if q.Key >= from && (to == "" || q.Key < to) {
			l = append(l, q)
		}
	}
	return l
}

// grown is a tree, and what it should have.
type grown struct {
	root, pages, depth int
	plain
}

// held is trees in one piece of work, each with its model.
type held struct {
	t     *testing.T
	w     *space.Work
	trees []grown
	// deepest is the greatest depth that there was, full how often there was no room.
	deepest, full int
}

func holds(t *testing.T, pages, trees int) *held {
	return &held{t: t, w: begun(t, pages), trees: make([]grown, trees)}
}

// put puts a pair in a tree and its model, if there is room.
func (h *held) put(i int, key, value string) {
	h.t.Helper()
	g := &h.trees[i]
	was := seen(h.w)
	now, e := tree.Put(h.w, g.root, key, value)
	switch {
	case e == api.OK:
		g.put(key, value)
	case e == api.ErrFull:
		if now != g.root || seen(h.w) != was {
			h.t.Fatalf("put %q where there is no room: something has changed", key)
		}
		h.full++
	default:
		h.t.Fatalf("put %q: %v", key, e)
	}
	g.root = now
	h.check(i, key)
}

// cut deletes a key from a tree and its model.
func (h *held) cut(i int, key string) {
	h.t.Helper()
	g := &h.trees[i]
	now, there, e := tree.Delete(h.w, g.root, key)
	if e != api.OK || there != g.plain.cut(key) || !there && now != g.root {
		h.t.Fatalf("delete %q: %v %v", key, there, e)
	}
	g.root = now
	h.check(i, key)
}

// check holds a tree against its model, and counts all pages.
func (h *held) check(i int, key string) {
	h.t.Helper()
	g := &h.trees[i]
	at, there := g.find(key)
	value := ""
	if there {
		value = g.pairs[at].Value
	}
	wantGet(h.t, h.w, g.root, key, value, there, api.OK)
	if l, e := tree.Scan(h.w, g.root, "", ""); e != api.OK || !slices.Equal(l, g.pairs) {
		h.t.Fatalf("behind %q: %v %q, not %q", key, e, l, g.pairs)
	}
	pages, depth, ok := tree.Sound(h.w, g.root)
	if !ok || (pages == 0) != (len(g.pairs) == 0) || (depth == 0) != (pages == 0) || (depth > 1) != (pages > 1) || (g.root == 0) != (pages == 0) {
		h.t.Fatalf("behind %q: %d pages, depth %d, %v", key, pages, depth, ok)
	}
	g.pages, g.depth = pages, depth
	h.deepest = max(h.deepest, depth)
	all := 1
	for _, o := range h.trees {
		all += o.pages
	}
	if h.w.Used() != all {
		h.t.Fatalf("behind %q: %d pages are used, not %d", key, h.w.Used(), all)
	}
}

// ranges asks for pieces of a tree, and for each of its keys.
func (h *held) ranges(i int, d *draws, key func() string) {
	h.t.Helper()
	g := &h.trees[i]
	for _, p := range g.pairs {
		wantGet(h.t, h.w, g.root, p.Key, p.Value, true, api.OK)
	}
	for range 20 {
		from, to := key(), key()
		if d.next(4) == 0 {
			to = ""
		}
		if l, e := tree.Scan(h.w, g.root, from, to); e != api.OK || !slices.Equal(l, g.scan(from, to)) {
			h.t.Fatalf("scan %q to %q: %v %q, not %q", from, to, e, l, g.scan(from, to))
		}
		_, there := g.find(from)
		if _, ok, e := tree.Get(h.w, g.root, from); ok != there || e != api.OK {
			h.t.Fatalf("get %q: %v %v", from, ok, e)
		}
	}
}

// drop drops all trees, one behind the other: no page but page 0 is used then.
func (h *held) drop() {
	h.t.Helper()
	for i := range h.trees {
		g := &h.trees[i]
		was := h.w.Used()
		if e := tree.Drop(h.w, g.root); e != api.OK || h.w.Used() != was-g.pages {
			h.t.Fatalf("drop: %v, %d pages are used", e, h.w.Used())
		}
		if g.root != 0 {
			wantAll(h.t, h.w, g.root, api.ErrIndex)
		}
		*g = grown{}
	}
	if h.w.Used() != 1 {
		h.t.Fatalf("%d pages are used behind all drops", h.w.Used())
	}
}

// TestShortRows: all rows of five steps with three keys.
func TestShortRows(t *testing.T) {
	keys := []string{"a", "aa", "b"}
	const kinds = 9
	for row := range kinds * kinds * kinds * kinds * kinds {
		h := holds(t, 3, 1)
		for left, step := row, 0; step < 5; left, step = left/kinds, step+1 {
			key := keys[left%kinds/3]
			switch left % 3 {
			case 0:
				h.put(0, key, "")
			case 1:
				h.put(0, key, strings.Repeat("v", 40))
			case 2:
				h.cut(0, key)
			}
		}
		if row%100 == 0 {
			h.drop()
		}
	}
}

// orders is the ways in which the numbers below n follow one another.
func orders(n int) map[string][]int {
	rising, falling, mixed, inward := make([]int, n), make([]int, n), make([]int, n), make([]int, n)
	for i := range n {
		rising[i], falling[i], mixed[i] = i, n-1-i, i*37%n
		inward[i] = i / 2
		if i%2 == 1 {
			inward[i] = n - 1 - i/2
		}
	}
	return map[string][]int{"rising": rising, "falling": falling, "mixed": mixed, "inward": inward}
}

// shapes is what keys and values are made of numbers.
func shapes() map[string]func(i int) (string, string) {
	return map[string]func(i int) (string, string){
		"least": func(i int) (string, string) { return string([]byte{byte(i >> 8), byte(i)}), "" },
		"greatest": func(i int) (string, string) {
			return strings.Repeat("k", 29) + strconv.Itoa(100+i), strings.Repeat("v", 40)
		},
		"long keys":   func(i int) (string, string) { return strconv.Itoa(100+i) + strings.Repeat("k", 29), "" },
		"long values": func(i int) (string, string) { return strconv.Itoa(100 + i), strings.Repeat("v", 40) },
		"unlike": func(i int) (string, string) {
			return strconv.Itoa(100+i) + strings.Repeat("x", i*7%30), strings.Repeat("y", i*11%41)
		},
	}
}

// TestGrowAndShrink: trees that grow in each order and shrink in each, of all shapes.
func TestGrowAndShrink(t *testing.T) {
	const n = 200
	for shape, of := range shapes() {
		for up, in := range orders(n) {
			for down, out := range orders(n) {
				h := holds(t, api.Pages, 1)
				for _, i := range in {
					key, value := of(i)
					h.put(0, key, value)
				}
				if h.full > 0 || h.deepest < 2 || shape != "least" && h.deepest < 3 {
					t.Fatal(shape, up, "full:", h.full, "deepest:", h.deepest)
				}
				h.ranges(0, &draws{1}, func() string { key, _ := of(len(h.trees[0].pairs) / 2); return key })
				for _, i := range out {
					key, _ := of(i)
					h.cut(0, key)
				}
				if h.trees[0].root != 0 || h.w.Used() != 1 {
					t.Fatal(shape, up, down, h.trees[0].root, h.w.Used())
				}
			}
		}
	}
}

// TestOverwrite: each pair of a tree gets values of other lengths, in place.
func TestOverwrite(t *testing.T) {
	h := holds(t, api.Pages, 1)
	for i := range 150 {
		h.put(0, strconv.Itoa(1000+i*7%150), "")
	}
	few := h.trees[0].pages
	for i := range 150 {
		h.put(0, strconv.Itoa(1000+i*11%150), strings.Repeat("v", 40))
	}
	if h.trees[0].pages <= few || len(h.trees[0].pairs) != 150 {
		t.Error(h.trees[0].pages, len(h.trees[0].pairs))
	}
	for i := range 150 {
		h.put(0, strconv.Itoa(1000+i*13%150), "v")
	}
	h.drop()
}

// TestDrawnRows: long drawn rows of steps, on one to three trees, in much room and in little.
func TestDrawnRows(t *testing.T) {
	full, deepest := 0, 0
	for seed := range 60 {
		d := &draws{uint64(seed)}
		pages := []int{2, 3, 4, 5, 8, 13, 40, api.Pages}[seed%8]
		h := holds(t, pages, 1+seed%3)
		many := 4 + 5*pages
		key := func() string {
			s := strconv.Itoa(d.next(many))
			return s + strings.Repeat("z", d.next(2)*d.next(33-len(s)))
		}
		for step := range 700 {
			i := d.next(len(h.trees))
			// There are times in which a tree grows, and others.
			grows := 3
			if step/150%2 == 1 {
				grows = 1
			}
			if g := &h.trees[i]; d.next(4) >= grows && len(g.pairs) > 0 && d.next(5) > 0 {
				h.cut(i, g.pairs[d.next(len(g.pairs))].Key)
			} else if d.next(12) == 0 {
				h.cut(i, key())
			} else {
				h.put(i, key(), strings.Repeat("v", d.next(41)))
			}
			if step%100 == 0 {
				h.ranges(i, d, key)
			}
		}
		h.drop()
		full += h.full
		deepest = max(deepest, h.deepest)
	}
	if full == 0 || deepest < 3 {
		t.Error("rows that show too little:", full, deepest)
	}
}
