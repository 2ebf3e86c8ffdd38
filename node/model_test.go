package node_test

import (
	"fmt"
	"slices"
	"strings"
	"testing"

	"factotum/api"
	"factotum/node"
)

// draws is a row of numbers that look drawn, the same ones each time.
type draws uint64

func (d *draws) next() uint64 {
	*d = *d*6364136223846793005 + 1442695040888963407
	x := uint64(*d)
	return (x ^ x>>29) * 0xbf58476d1ce4e5b9 >> 16
}

func (d *draws) below(n int) int { return int(d.next() % uint64(n)) }

// text is up to most bytes, of few kinds, so that keys begin alike and are alike.
func (d *draws) text(most int) string {
	b := make([]byte, d.below(most+1))
	for i := range b {
		b[i] = []byte{0, 'a', 'b', 255}[d.below(4)]
	}
	return string(b)
}

// keys is up to n unlike keys that may be, in order.
func (d *draws) keys(n, most int) []string {
	l := make([]string, n)
	for i := range l {
		l[i] = string(rune('a'+d.below(4))) + d.text(most-1)
	}
	slices.Sort(l)
	return slices.Compact(l)
}

// node is a node that may be, with up to n pairs or keys.
func (d *draws) node(n int) api.Node {
	keys := d.keys(d.below(n+1), 1+d.below(32))
	if d.below(2) == 0 {
		return leafOf(d, keys)
	}
	return innerOf(d, keys)
}

func leafOf(d *draws, keys []string) api.Node {
	x := api.Node{Leaf: true}
	most := d.below(41)
	for _, k := range keys {
		x.Pairs = append(x.Pairs, api.Pair{Key: k, Value: d.text(most)})
	}
	return x
}

func innerOf(d *draws, keys []string) api.Node {
	x := api.Node{Keys: keys}
	for range len(keys) + 1 {
		x.Kids = append(x.Kids, 1+d.below(65535))
	}
	return x
}

// any is a node of whatever kind, with parts that it may not have, now and then.
func (d *draws) any() api.Node {
	x := d.node(6)
	switch d.below(8) {
	case 0:
		x.Leaf = !x.Leaf
	case 1:
		x.Kids = append(x.Kids, d.below(70000)-10)
	case 2:
		x.Keys = append(x.Keys, d.text(34))
	case 3:
		x.Pairs = append(x.Pairs, api.Pair{Key: d.text(34), Value: d.text(42)})
	case 4:
		slices.Reverse(x.Pairs)
		slices.Reverse(x.Keys)
	case 5:
		x.Pairs = append(x.Pairs, api.Pair{Key: "z", Value: strings.Repeat("v", 40+d.below(3))})
	}
	return x
}

// show is a node as a text.
func show(n api.Node) string {
	return fmt.Sprintf("%v %q %q %v", n.Leaf, n.Pairs, n.Keys, n.Kids)
}

func same(a, b api.Node) bool {
	return a.Leaf == b.Leaf && slices.Equal(a.Pairs, b.Pairs) && slices.Equal(a.Keys, b.Keys) && slices.Equal(a.Kids, b.Kids)
}

// clone is the node in memory of its own.
func clone(n api.Node) api.Node {
	return api.Node{Leaf: n.Leaf, Pairs: slices.Clone(n.Pairs), Keys: slices.Clone(n.Keys), Kids: slices.Clone(n.Kids)}
}

// modelSize counts the bytes that the node's page would have.
func modelSize(n api.Node) int { return len(modelBytes(n)) }

// modelBytes is the page's bytes without the noughts at its end, of nodes that may not be too: kids that are missing count as others do.
func modelBytes(n api.Node) string {
	var b strings.Builder
	text := func(s string) { b.WriteString(string([]byte{byte(len(s))}) + s) }
	kid := func(i int) {
		k := 0
		if i < len(n.Kids) {
			k = n.Kids[i]
		}
		b.WriteString(string([]byte{byte(k / 256), byte(k % 256)}))
	}
	if n.Leaf {
		b.WriteString("\x01" + string([]byte{byte(len(n.Pairs))}))
		for _, p := range n.Pairs {
			text(p.Key)
			text(p.Value)
		}
		return b.String()
	}
	b.WriteString("\x02" + string([]byte{byte(len(n.Keys))}))
	kid(0)
	for i, k := range n.Keys {
		text(k)
		kid(i + 1)
	}
	return b.String()
}

// modelMayBe says whether the node may be, one list of keys for both kinds.
func modelMayBe(n api.Node) bool {
	keys := slices.Clone(n.Keys)
	for _, p := range n.Pairs {
		keys = append(keys, p.Key)
		if len(p.Value) > 40 {
			return false
		}
	}
	for _, k := range n.Kids {
		if k < 1 || k > 65535 {
			return false
		}
	}
	for i, k := range keys {
		if k == "" || len(k) > 32 || i > 0 && strings.Compare(keys[i-1], k) >= 0 {
			return false
		}
	}
	if n.Leaf {
		return n.Keys == nil && n.Kids == nil || len(n.Keys)+len(n.Kids) == 0
	}
	return len(n.Pairs) == 0 && len(n.Kids)-len(n.Keys) == 1
}

func modelWrite(n api.Node) (string, api.Errno) {
	s := modelBytes(n)
	if !modelMayBe(n) {
		return "", api.ErrField
	}
	if len(s) > 256 {
		return "", api.ErrLong
	}
	return s + strings.Repeat("\x00", 256-len(s)), api.OK
}

// modelRead reads as far as anything is there, and then asks whether what it read is written so.
func modelRead(s string) (api.Node, api.Errno) {
	at := 0
	num := func() int {
		if at >= len(s) {
			return 0
		}
		at++
		return int(s[at-1])
	}
	text := func() string {
		n := num()
		from := min(at, len(s))
		at += n
		return s[from:min(at, len(s))]
	}
	var n api.Node
	kind, count := num(), num()
	n.Leaf = kind == 1
	if !n.Leaf {
		n.Kids = append(n.Kids, num()*256+num())
	}
	for range count {
		if n.Leaf {
			n.Pairs = append(n.Pairs, api.Pair{Key: text(), Value: text()})
			continue
		}
		n.Keys = append(n.Keys, text())
		n.Kids = append(n.Kids, num()*256+num())
	}
	if back, e := modelWrite(n); e != api.OK || back != s {
		return api.Node{}, api.ErrCorrupt
	}
	return n, api.OK
}

// modelSplit goes through all ways to split, from the last one on, and keeps the least that does.
func modelSplit(n api.Node) (api.Node, api.Node, string) {
	all, most := len(n.Pairs), len(n.Pairs)-1
	part := func(i int) int { return modelSize(api.Node{Leaf: true, Pairs: n.Pairs[:i]}) - 2 }
	if !n.Leaf {
		all, most = len(n.Keys), len(n.Keys)-2
		part = func(i int) int { return modelSize(api.Node{Keys: n.Keys[:i]}) - 4 }
	}
	if most < 1 || !n.Leaf && len(n.Kids) != len(n.Keys)+1 {
		return n, api.Node{}, ""
	}
	at := most
	for i := most; i >= 1; i-- {
		if 2*part(i) >= part(all) {
			at = i
		}
	}
	if n.Leaf {
		return api.Node{Leaf: true, Pairs: n.Pairs[:at]}, api.Node{Leaf: true, Pairs: n.Pairs[at:]}, n.Pairs[at].Key
	}
	return api.Node{Keys: n.Keys[:at], Kids: n.Kids[:at+1]}, api.Node{Keys: n.Keys[at+1:], Kids: n.Kids[at+1:]}, n.Keys[at]
}

// checkNode holds what is told of one node alone against the model.
func checkNode(t *testing.T, n api.Node) {
	t.Helper()
	before := clone(n)
	if got, want := node.Size(n), modelSize(n); got != want {
		t.Fatalf("Size of %s: %d, not %d", show(n), got, want)
	}
	s, e := node.Write(n)
	if want, we := modelWrite(n); s != want || e != we {
		t.Fatalf("Write of %s: %q and %d, not %q and %d", show(n), s, e, want, we)
	}
	if e == api.OK {
		if m, e := node.Read(s); e != api.OK || !same(m, n) {
			t.Fatalf("%s is read as %s and %d", show(n), show(m), e)
		}
	}
	a, b, k := node.Split(n)
	if wa, wb, wk := modelSplit(n); !same(a, wa) || !same(b, wb) || k != wk {
		t.Fatalf("Split of %s: %s and %s, %q", show(n), show(a), show(b), k)
	}
	if !same(n, before) {
		t.Fatalf("%s is %s now", show(before), show(n))
	}
}

// checkRead holds Read of any bytes against the model.
func checkRead(t *testing.T, s string) {
	t.Helper()
	n, e := node.Read(s)
	m, we := modelRead(s)
	if e != we || !same(n, m) {
		t.Fatalf("Read of %q: %s and %d, not %s and %d", s, show(n), e, show(m), we)
	}
	if e != api.OK {
		return
	}
	if back, e := node.Write(n); e != api.OK || back != s {
		t.Fatalf("%q is written again as %q and %d", s, back, e)
	}
}

func TestDrawnNodes(t *testing.T) {
	d := draws(1)
	for range 10000 {
		checkNode(t, d.node(1+d.below(90)))
		checkNode(t, d.any())
	}
}

// Nodes of all kinds, with few parts of each, of sizes at the edges.
func TestAllSmallNodes(t *testing.T) {
	texts := []string{"", "a", "b", strings.Repeat("b", 32), strings.Repeat("b", 33)}
	values := []string{"", strings.Repeat("v", 40), strings.Repeat("v", 41)}
	var pairs []api.Pair
	for _, k := range texts {
		for _, v := range values {
			pairs = append(pairs, api.Pair{Key: k, Value: v})
		}
	}
	for _, leaf := range []bool{true, false} {
		for _, p := range lists(pairs, 2) {
			for _, k := range lists(texts, 2) {
				for _, c := range lists([]int{0, 1, 65535, 65536, -1}, 3) {
					checkNode(t, api.Node{Leaf: leaf, Pairs: p, Keys: k, Kids: c})
				}
				if len(p) > 1 {
					break
				}
			}
		}
	}
}

// lists is all lists of these things, of up to so many.
func lists[T any](l []T, most int) [][]T {
	all := [][]T{nil}
	for from, n := 0, 0; n < most; n++ {
		to := len(all)
		for _, ahead := range all[from:to] {
			for _, x := range l {
				all = append(all, append(slices.Clone(ahead), x))
			}
		}
		from = to
	}
	return all
}

// Leaves and inner nodes whose parts are of all sizes, in all orders: what is split.
func TestSplitOfAllShortRowsOfSizes(t *testing.T) {
	for _, sizes := range lists([]int{0, 1, 2, 7, 29}, 6) {
		x, y := api.Node{Leaf: true}, api.Node{Kids: []int{9}}
		for i, n := range sizes {
			key := string(rune('a' + i))
			x.Pairs = append(x.Pairs, api.Pair{Key: key, Value: strings.Repeat("v", n)})
			y.Keys = append(y.Keys, key+strings.Repeat("k", n))
			y.Kids = append(y.Kids, 10+i)
		}
		checkNode(t, x)
		checkNode(t, y)
	}
}

// Each byte of some pages, changed to each other one.
func TestReadOfEachByteChanged(t *testing.T) {
	d := draws(2)
	l := []api.Node{
		{Leaf: true}, {Kids: []int{1}},
		{Leaf: true, Pairs: []api.Pair{{Key: "a", Value: "1"}}},
		{Leaf: true, Pairs: []api.Pair{{Key: "a"}, {Key: "ab", Value: "\x00\x00"}, {Key: "b", Value: strings.Repeat("v", 40)}}},
		{Keys: []string{"a", "ab", "b\x00"}, Kids: []int{1, 65535, 256, 1}},
	}
	for len(l) < 12 {
		if n := d.node(40); modelSize(n) > 200 && modelSize(n) <= 256 {
			l = append(l, n)
		}
	}
	for _, n := range l {
		s, e := node.Write(n)
		if e != api.OK {
			t.Fatal(show(n), e)
		}
		b := []byte(s)
		for i, old := range b {
			for c := range 256 {
				b[i] = byte(c)
				checkRead(t, string(b))
			}
			b[i] = old
		}
	}
}

// Bytes that look like a page's, drawn: lengths and counts that say more or less than is there among them.
func TestReadOfDrawnBytes(t *testing.T) {
	d := draws(3)
	well := 0
	for range 100000 {
		b := make([]byte, 256)
		b[0], b[1] = byte(1+d.below(2)), byte(d.below(5))
		for i := range 2 + d.below(40) {
			if i > 1 {
				b[i] = byte(d.below(3))
			}
		}
		if _, e := node.Read(string(b)); e == api.OK {
			well++
		}
		checkRead(t, string(b))
	}
	if well < 1000 {
		t.Errorf("only %d were pages", well)
	}
}

// keyed is the pairs as the keys' values, and which are there twice isn't told: of nodes in order.
func keyed(n api.Node) map[string]string {
	m := map[string]string{}
	for _, p := range n.Pairs {
		m[p.Key] = p.Value
	}
	return m
}

// leafOfMap is a leaf of these keys and values.
func leafOfMap(m map[string]string) api.Node {
	n := api.Node{Leaf: true}
	for k, v := range m {
		n.Pairs = append(n.Pairs, api.Pair{Key: k, Value: v})
	}
	slices.SortFunc(n.Pairs, func(a, b api.Pair) int { return strings.Compare(a.Key, b.Key) })
	return n
}

// Of drawn leaves: Find, Put and Cut against a map that is sorted; and Child against the keys alone.
func TestDrawnLooks(t *testing.T) {
	d := draws(4)
	for range 20000 {
		n := d.node(12)
		key, value := d.text(4), d.text(6)
		if d.below(2) == 0 && len(n.Pairs) > 0 {
			key = n.Pairs[d.below(len(n.Pairs))].Key
		}
		if d.below(2) == 0 && len(n.Keys) > 0 {
			key = n.Keys[d.below(len(n.Keys))]
		}
		m := keyed(n)
		_, there := m[key]
		ahead := 0
		for k := range m {
			if strings.Compare(k, key) < 0 {
				ahead++
			}
		}
		if i, ok := node.Find(n, key); i != ahead || ok != there {
			t.Fatalf("Find of %q in %s: %d, %v", key, show(n), i, ok)
		}
		child, _ := slices.BinarySearch(n.Keys, key+"\x00")
		if got := node.Child(n, key); got != child {
			t.Fatalf("Child of %q in %s: %d", key, show(n), got)
		}
		m[key] = value
		if got := node.Put(n, key, value); !same(got, leafOfMap(m)) {
			t.Fatalf("Put of %q in %s: %s", key, show(n), show(got))
		}
		delete(m, key)
		if got := node.Cut(n, key); !same(got, leafOfMap(m)) {
			t.Fatalf("Cut of %q in %s: %s", key, show(n), show(got))
		}
	}
}

// P9.2: what is split is joined again, and parts of what is at most 74 above a page in size fit one.
func TestSplitAndJoined(t *testing.T) {
	d := draws(5)
	above, split := 0, 0
	for range 30000 {
		n := d.node(3 + d.below(60))
		a, b, k := node.Split(n)
		if node.Size(n) > 330 {
			continue
		}
		if modelSize(a) > 256 || modelSize(b) > 256 {
			t.Fatalf("parts of %d and %d bytes of %s", modelSize(a), modelSize(b), show(n))
		}
		if same(b, api.Node{}) {
			continue
		}
		split++
		if modelSize(n) > 256 {
			above++
		}
		if !modelMayBe(a) || !modelMayBe(b) {
			t.Fatalf("parts that may not be of %s", show(n))
		}
		if got := node.Join(a, b, k); !same(got, n) {
			t.Fatalf("%s is joined again as %s", show(n), show(got))
		}
	}
	if split < 5000 || above < 500 {
		t.Errorf("%d were split, %d of them greater than a page", split, above)
	}
}

// P9.2 at its bound: nodes of size 330, with the greatest pairs and keys at each place.
func TestPartsOfTheGreatestNodes(t *testing.T) {
	for _, lens := range [][]int{{72, 72, 72, 72, 30}, {30, 72, 72, 72, 72}, {72, 30, 72, 72, 72}, {72, 72, 30, 72, 72}, {72, 72, 72, 30, 72}} {
		x := api.Node{Leaf: true}
		for i, n := range lens {
			x.Pairs = append(x.Pairs, api.Pair{Key: string(rune('a'+i)) + strings.Repeat("k", min(n, 32)-1), Value: strings.Repeat("v", n-min(n, 32))})
		}
		partsFit(t, x, 330)
	}
	for first := range 80 {
		x := api.Node{Leaf: true}
		for i := range 80 {
			x.Pairs = append(x.Pairs, api.Pair{Key: string(rune(' ' + i))})
		}
		for i := range 8 {
			x.Pairs[(first+i)%80].Value = strings.Repeat("v", 11)
		}
		partsFit(t, x, 330)
	}
	for short := range 10 {
		x := api.Node{Kids: []int{1}}
		for i := range 10 {
			n := 32
			if i == short {
				n = 8
			}
			x.Keys = append(x.Keys, string(rune('a'+i))+strings.Repeat("k", n-1))
			x.Kids = append(x.Kids, 2+i)
		}
		for node.Size(x) > 330 {
			x.Keys, x.Kids = x.Keys[1:], x.Kids[1:]
		}
		partsFit(t, x, 0)
	}
}

// partsFit says that the node is of the told size (0: any), and that its parts fit a page each.
func partsFit(t *testing.T, n api.Node, size int) {
	t.Helper()
	if !modelMayBe(n) || size > 0 && modelSize(n) != size {
		t.Fatalf("of size %d: %s", modelSize(n), show(n))
	}
	a, b, _ := node.Split(n)
	for _, part := range []api.Node{a, b} {
		if s, e := node.Write(part); e != api.OK || len(s) != 256 {
			t.Errorf("a part of %d bytes: %d; of %s", modelSize(part), e, show(n))
		}
	}
	checkNode(t, n)
}
