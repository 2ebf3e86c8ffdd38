package node_test

import (
	"slices"
	"strings"
	"testing"

	"factotum/api"
	"factotum/node"
)

// pairsOf is the pairs of keys and values, told by turns.
func pairsOf(l ...string) []api.Pair {
	var pairs []api.Pair
	for i := 0; i+1 < len(l); i += 2 {
		pairs = append(pairs, api.Pair{Key: l[i], Value: l[i+1]})
	}
	return pairs
}

// leaf is a leaf of keys and values, told by turns.
func leaf(l ...string) api.Node { return api.Node{Leaf: true, Pairs: pairsOf(l...)} }

// inner is an inner node of these keys, with the kids 1, 2 and so on.
func inner(keys ...string) api.Node {
	n := api.Node{Keys: keys, Kids: []int{1}}
	for i := range keys {
		n.Kids = append(n.Kids, 2+i)
	}
	return n
}

// long is n bytes that begin with the told one.
func long(first string, n int) string { return first + strings.Repeat("k", n-1) }

// page is the bytes, and noughts behind them up to 256.
func page(s string) string { return s + strings.Repeat("\x00", 256-len(s)) }

func TestExample(t *testing.T) {
	if s, e := node.Write(leaf("a", "1")); e != api.OK || s != page("\x01\x01\x01\x61\x01\x31") {
		t.Errorf("%q and %d", s, e)
	}
	if n, e := node.Read(page("\x01\x01\x01\x61\x01\x31")); e != api.OK || !same(n, leaf("a", "1")) {
		t.Errorf("%s and %d", show(n), e)
	}
}

func TestSize(t *testing.T) {
	for i, x := range []struct {
		n    api.Node
		want int
	}{
		{api.Node{Leaf: true}, 2}, {leaf("", ""), 4}, {leaf("a", ""), 5}, {leaf("a", "12"), 7}, {leaf("a", "12", "bcd", "345"), 15},
		{leaf(long("a", 32), long("v", 40)), 76}, {leaf(long("a", 300), long("v", 400)), 704},
		{api.Node{}, 4}, {api.Node{Kids: []int{1}}, 4}, {inner("a"), 8}, {inner("", "abc"), 13}, {inner(long("a", 32)), 39}, {inner(long("a", 300)), 307},
		{api.Node{Leaf: true, Keys: []string{"a", "b"}, Kids: []int{1, 2, 3}}, 2},
		{api.Node{Leaf: true, Pairs: pairsOf("a", "1"), Keys: []string{"abcd"}, Kids: []int{1, 2}}, 6},
		{api.Node{Pairs: pairsOf("a", "1", "b", "2"), Keys: []string{"ab"}, Kids: []int{1, 2}}, 9},
		{api.Node{Pairs: pairsOf("a", "1")}, 4}, {api.Node{Keys: []string{"ab", "c"}}, 13}, {api.Node{Keys: []string{"ab"}, Kids: []int{1, 2, 3, 4, 5}}, 9},
	} {
		if got := node.Size(x.n); got != x.want {
			t.Errorf("%d: %d, not %d, of %s", i, got, x.want, show(x.n))
		}
	}
}

func TestWriteOfNodesThatMayBe(t *testing.T) {
	for i, x := range []struct {
		n    api.Node
		want string
	}{
		{api.Node{Leaf: true}, "\x01\x00"},
		{api.Node{Leaf: true, Pairs: []api.Pair{}, Keys: []string{}, Kids: []int{}}, "\x01\x00"},
		{leaf("a", ""), "\x01\x01\x01a\x00"},
		{leaf("\x00", "\x00"), "\x01\x01\x01\x00\x01\x00"},
		{leaf("a", "2", "ab", "1", "b", ""), "\x01\x03\x01a\x012\x02ab\x011\x01b\x00"},
		{leaf("\x7f", "", "\x80", "", "\xff", ""), "\x01\x03\x01\x7f\x00\x01\x80\x00\x01\xff\x00"},
		{leaf(long("a", 32), long("v", 40)), "\x01\x01\x20" + long("a", 32) + "\x28" + long("v", 40)},
		{api.Node{Kids: []int{1}}, "\x02\x00\x00\x01"},
		{api.Node{Pairs: []api.Pair{}, Keys: []string{}, Kids: []int{65535}}, "\x02\x00\xff\xff"},
		{api.Node{Keys: []string{"a"}, Kids: []int{258, 256}}, "\x02\x01\x01\x02\x01a\x01\x00"},
		{api.Node{Keys: []string{"a", "b"}, Kids: []int{7, 7, 7}}, "\x02\x02\x00\x07\x01a\x00\x07\x01b\x00\x07"},
		{api.Node{Keys: []string{long("a", 32)}, Kids: []int{1, 2}}, "\x02\x01\x00\x01\x20" + long("a", 32) + "\x00\x02"},
	} {
		s, e := node.Write(x.n)
		if e != api.OK || s != page(x.want) {
			t.Errorf("%d: %q and %d", i, s, e)
			continue
		}
		if n, e := node.Read(s); e != api.OK || !same(n, x.n) {
			t.Errorf("%d is read as %s and %d", i, show(n), e)
		}
	}
}

func TestWriteOfNodesThatMayNotBe(t *testing.T) {
	for i, n := range []api.Node{
		{},
		{Leaf: true, Keys: []string{"a"}}, {Leaf: true, Kids: []int{1}}, {Leaf: true, Keys: []string{"a"}, Kids: []int{1, 2}},
		{Leaf: true, Pairs: pairsOf("a", "1"), Kids: []int{1}}, {Leaf: true, Pairs: pairsOf("a", "1"), Keys: []string{"a"}},
		leaf("", ""), leaf("", "1", "a", "2"), leaf("a", "1", "", "2"), leaf(long("a", 33), ""), leaf("a", "", long("b", 33), ""),
		leaf("a", long("v", 41)), leaf("a", long("v", 41), "b", ""), leaf("a", "", "b", long("v", 41)), leaf("a", long("v", 256)), leaf("a", long("v", 296)), leaf(long("a", 256), ""), leaf(long("a", 257), ""),
		leaf("a", "1", "a", "2"), leaf("b", "1", "a", "2"), leaf("ab", "1", "a", "2"), leaf("a", "", "b", "", "b", ""), leaf("\x80", "", "\x7f", ""),
		{Pairs: pairsOf("a", "1")}, {Pairs: pairsOf("a", "1"), Kids: []int{1}}, {Pairs: pairsOf("a", "1"), Keys: []string{"a"}, Kids: []int{1, 2}},
		{Keys: []string{"a"}}, {Keys: []string{"a"}, Kids: []int{1}}, {Keys: []string{"a"}, Kids: []int{1, 2, 3}}, {Kids: []int{1, 2}}, {Keys: []string{"a", "b"}, Kids: []int{1, 2}},
		{Kids: []int{0}}, {Kids: []int{65536}}, {Kids: []int{-1}}, {Kids: []int{-65535}}, {Kids: []int{1 << 40}}, {Kids: []int{65537}}, {Kids: []int{-1 << 63}},
		{Keys: []string{"a"}, Kids: []int{1, 0}}, {Keys: []string{"a"}, Kids: []int{0, 1}}, {Keys: []string{"a"}, Kids: []int{1, 65536}}, {Keys: []string{"a", "b"}, Kids: []int{1, -2, 3}},
		{Keys: []string{""}, Kids: []int{1, 2}}, {Keys: []string{long("a", 33)}, Kids: []int{1, 2}}, {Keys: []string{"a", "a"}, Kids: []int{1, 2, 3}}, {Keys: []string{"b", "a"}, Kids: []int{1, 2, 3}},
		{Keys: []string{"a", ""}, Kids: []int{1, 2, 3}}, {Keys: []string{"a", "b", "b"}, Kids: []int{1, 2, 3, 4}},
	} {
		before := clone(n)
		if s, e := node.Write(n); e != api.ErrField || s != "" {
			t.Errorf("%d: %q and %d", i, s, e)
		}
		if !same(n, before) {
			t.Errorf("%d was changed", i)
		}
	}
}

// sized is a leaf that may be, of the told size: three great pairs, and one that fills it up.
func sized(size int) api.Node {
	n := leaf(long("a", 32), long("v", 40), long("b", 32), long("v", 40), long("c", 32), long("v", 40), "d", "")
	n.Pairs[3].Value = long("v", size-node.Size(n))
	return n
}

// innerSized is an inner node that may be, of the told size.
func innerSized(size int) api.Node {
	n := inner(long("a", 14), long("b", 32), long("c", 32), long("d", 32), long("e", 32), long("f", 32), long("g", 32), "h")
	n.Keys[7] = long("h", 1+size-node.Size(n))
	return n
}

func TestWriteAtTheBound(t *testing.T) {
	for _, size := range []int{254, 255, 256, 257, 258, 265} {
		for _, n := range []api.Node{sized(size), innerSized(size)} {
			s, e := node.Write(n)
			if size <= 256 {
				if e != api.OK || s != page(modelBytes(n)) {
					t.Errorf("%d: %q and %d", size, s, e)
				}
				if m, e := node.Read(s); e != api.OK || !same(m, n) {
					t.Errorf("%d is read as %s and %d", size, show(m), e)
				}
				continue
			}
			if e != api.ErrLong || s != "" {
				t.Errorf("%d: %q and %d", size, s, e)
			}
		}
	}
}

// Far more pairs and keys than a byte can count, in order: too long, and nothing else.
func TestWriteOfVeryMany(t *testing.T) {
	x, y := api.Node{Leaf: true}, api.Node{Kids: []int{1}}
	for i := range 70000 {
		key := string([]byte{1 + byte(i>>16), byte(i >> 8), byte(i)})
		x.Pairs = append(x.Pairs, api.Pair{Key: key})
		y.Keys = append(y.Keys, key)
		y.Kids = append(y.Kids, 1+i%65535)
	}
	for _, count := range []int{50, 51, 84, 85, 255, 256, 257, 300, 65536, 70000} {
		a := api.Node{Leaf: true, Pairs: x.Pairs[:count]}
		b := api.Node{Keys: y.Keys[:count], Kids: y.Kids[:count+1]}
		for _, n := range []api.Node{a, b} {
			s, e := node.Write(n)
			if want, we := modelWrite(n); s != want || e != we {
				t.Errorf("%d: %q and %d", count, s, e)
			}
		}
	}
	if s, e := node.Write(api.Node{Leaf: true, Pairs: x.Pairs[:256]}); e != api.ErrLong || s != "" {
		t.Errorf("256 pairs: %q and %d", s, e)
	}
}

// A node that may not be, and is too long: ErrField comes first.
func TestWhichErrorIsTold(t *testing.T) {
	many := sized(257)
	many.Pairs[1].Key = "a"
	far := innerSized(257)
	far.Kids[3] = 0
	more := innerSized(257)
	more.Kids = more.Kids[1:]
	value := sized(257)
	value.Pairs[0].Value += "v"
	mixed := sized(260)
	mixed.Kids = []int{1}
	for i, n := range []api.Node{many, far, more, value, mixed} {
		if s, e := node.Write(n); e != api.ErrField || s != "" {
			t.Errorf("%d: %q and %d", i, s, e)
		}
	}
}

func TestReadOfWrongBytes(t *testing.T) {
	well := page("\x01\x02\x01a\x011\x01b\x012")
	kids := page("\x02\x01\x00\x01\x01a\x00\x02")
	many := page("\x01\x54" + strings.Repeat("\x01a\x00", 84))
	var l []string
	for _, s := range []string{well, kids} {
		for n := range 256 {
			l = append(l, s[:n])
		}
		l = append(l, s+"\x00", s+s, s[:255]+"\x01", s+"x", "\x00"+s[:255])
	}
	for _, s := range []string{
		"", "\x00", "\x00\x00", "\x03\x00", "\x03\x00\x00\x01", "\xff\x00", "\x00\x01\x01a\x00", "0\x01",
		"\x01\x00\x01", "\x01\x00\x00\x00\x01", "\x01\x01\x01a\x00\x01", "\x02\x00\x00\x01\x01", "\x02\x00\x00\x01\x00\x01",
		"\x01\x01", "\x01\x02\x01a\x00", "\x01\xff", "\x01\x01\x00\x00", "\x01\x01\x00\x01a",
		"\x01\x01\x21" + long("a", 33), "\x01\x01\x01a\x29" + long("v", 41), "\x01\x01\xff", "\x01\x01\x01a\xff",
		"\x01\x02\x01a\x00\x01a\x00", "\x01\x02\x01b\x00\x01a\x00", "\x01\x02\x02ab\x00\x01a\x00",
		"\x02\x00", "\x02\x00\x00\x00", "\x02\x01\x00\x01", "\x02\x01\x00\x01\x01a\x00\x00", "\x02\x01\x00\x00\x01a\x00\x01", "\x02\x01\x00\x01\x00\x00\x02",
		"\x02\x02\x00\x01\x01a\x00\x02\x01a\x00\x03", "\x02\x02\x00\x01\x01b\x00\x02\x01a\x00\x03", "\x02\xff\x00\x01", "\x02\x01\x00\x01\x21" + long("a", 33) + "\x00\x02",
	} {
		l = append(l, page(s))
	}
	l = append(l, many, strings.Repeat("\x01", 256), strings.Repeat("\x02", 256), strings.Repeat("\xff", 256), strings.Repeat("\x00", 1<<20))
	for _, s := range l {
		if n, e := node.Read(s); e != api.ErrCorrupt || !same(n, api.Node{}) {
			t.Errorf("%q: %s and %d", s, show(n), e)
		}
	}
	for _, s := range []string{well, kids} {
		if _, e := node.Read(s); e != api.OK {
			t.Errorf("%q: %d", s, e)
		}
	}
}

// Texts that end at the page's very end, and counts that tell one more than is there.
func TestReadToTheVeryEnd(t *testing.T) {
	for _, n := range []api.Node{sized(256), innerSized(256)} {
		s, e := node.Write(n)
		if e != api.OK {
			t.Fatal(e)
		}
		checkRead(t, s)
		for _, more := range []int{-1, 1, 2, 200} {
			b := []byte(s)
			b[1] += byte(more)
			if m, e := node.Read(string(b)); e != api.ErrCorrupt || !same(m, api.Node{}) {
				t.Errorf("%d more: %s and %d", more, show(m), e)
			}
		}
		b := []byte(s)
		if n.Leaf {
			b[255-len(n.Pairs[3].Value)]++
		} else {
			b[253-len(n.Keys[7])] += 3
		}
		if m, e := node.Read(string(b)); e != api.ErrCorrupt || !same(m, api.Node{}) {
			t.Errorf("a text that goes on behind the page: %s and %d", show(m), e)
		}
	}
}

func TestChild(t *testing.T) {
	n := inner("b", "d", "f")
	for key, want := range map[string]int{"": 0, "a": 0, "b": 1, "b\x00": 1, "ba": 1, "c": 1, "d": 2, "e": 2, "f": 3, "g": 3, "\xff": 3} {
		if got := node.Child(n, key); got != want {
			t.Errorf("%q: %d, not %d", key, got, want)
		}
	}
	for i, x := range []struct {
		n    api.Node
		want int
	}{
		{api.Node{}, 0}, {api.Node{Leaf: true}, 0}, {inner(), 0}, {leaf("a", "1", "b", "2"), 0},
		{api.Node{Keys: []string{""}}, 1}, {api.Node{Keys: []string{"", "", "m", "n"}}, 3}, {api.Node{Leaf: true, Keys: []string{"a"}}, 1}, {api.Node{Keys: []string{"z", "a", "m"}}, 2},
	} {
		if got := node.Child(x.n, "m"); got != x.want {
			t.Errorf("%d: %d, not %d", i, got, x.want)
		}
	}
	if got := node.Child(api.Node{Keys: []string{"", "a"}}, ""); got != 1 {
		t.Errorf("the empty key: %d", got)
	}
}

func TestFind(t *testing.T) {
	n := leaf("b", "1", "d", "2", "f", "3")
	for _, x := range []struct {
		key   string
		want  int
		there bool
	}{
		{"", 0, false}, {"a", 0, false}, {"b", 0, true}, {"b\x00", 1, false}, {"c", 1, false}, {"d", 1, true}, {"e", 2, false}, {"f", 2, true}, {"ff", 3, false}, {"\xff", 3, false},
	} {
		if i, there := node.Find(n, x.key); i != x.want || there != x.there {
			t.Errorf("%q: %d and %v", x.key, i, there)
		}
	}
	for _, x := range []struct {
		n     api.Node
		key   string
		want  int
		there bool
	}{
		{api.Node{}, "", 0, false}, {api.Node{}, "a", 0, false}, {api.Node{Leaf: true}, "", 0, false}, {api.Node{Leaf: true}, "a", 0, false}, {inner("a", "b"), "a", 0, false},
		{leaf("", "1"), "", 0, true}, {leaf("", "1"), "a", 1, false}, {api.Node{Pairs: pairsOf("a", "1")}, "a", 0, true}, {leaf("a", "1", "a", "2"), "a", 0, true}, {leaf("c", "1", "a", "2"), "b", 1, false},
	} {
		if i, there := node.Find(x.n, x.key); i != x.want || there != x.there {
			t.Errorf("%q in %s: %d and %v", x.key, show(x.n), i, there)
		}
	}
}

func TestPutAndCut(t *testing.T) {
	n := leaf("b", "1", "d", "2")
	other := api.Node{Pairs: pairsOf("b", "1", "d", "2"), Keys: []string{"k"}, Kids: []int{1, 2}}
	for i, x := range []struct{ got, want api.Node }{
		{node.Put(n, "a", "9"), leaf("a", "9", "b", "1", "d", "2")},
		{node.Put(n, "", ""), leaf("", "", "b", "1", "d", "2")},
		{node.Put(n, "b", "9"), leaf("b", "9", "d", "2")},
		{node.Put(n, "b", ""), leaf("b", "", "d", "2")},
		{node.Put(n, "b", "1"), n},
		{node.Put(n, "c", "9"), leaf("b", "1", "c", "9", "d", "2")},
		{node.Put(n, "d", "9"), leaf("b", "1", "d", "9")},
		{node.Put(n, "e", "9"), leaf("b", "1", "d", "2", "e", "9")},
		{node.Put(n, long("e", 40), long("v", 50)), leaf("b", "1", "d", "2", long("e", 40), long("v", 50))},
		{node.Put(api.Node{}, "a", "1"), leaf("a", "1")},
		{node.Put(api.Node{Leaf: true}, "a", "1"), leaf("a", "1")},
		{node.Put(inner("a", "b"), "a", "1"), leaf("a", "1")},
		{node.Put(other, "c", "9"), leaf("b", "1", "c", "9", "d", "2")},
		{node.Put(other, "d", "9"), leaf("b", "1", "d", "9")},
		{node.Cut(n, ""), n}, {node.Cut(n, "a"), n}, {node.Cut(n, "c"), n}, {node.Cut(n, "e"), n}, {node.Cut(n, "dd"), n},
		{node.Cut(n, "b"), leaf("d", "2")},
		{node.Cut(n, "d"), leaf("b", "1")},
		{node.Cut(leaf("a", "1"), "a"), api.Node{Leaf: true}},
		{node.Cut(leaf("a", "1", "b", "2", "c", "3"), "b"), leaf("a", "1", "c", "3")},
		{node.Cut(api.Node{}, "a"), api.Node{Leaf: true}},
		{node.Cut(api.Node{Leaf: true}, ""), api.Node{Leaf: true}},
		{node.Cut(inner("a", "b"), "a"), api.Node{Leaf: true}},
		{node.Cut(other, "b"), leaf("d", "2")},
		{node.Cut(other, "c"), leaf("b", "1", "d", "2")},
	} {
		if !same(x.got, x.want) {
			t.Errorf("%d: %s, not %s", i, show(x.got), show(x.want))
		}
	}
	if !same(n, leaf("b", "1", "d", "2")) || !same(other, api.Node{Pairs: pairsOf("b", "1", "d", "2"), Keys: []string{"k"}, Kids: []int{1, 2}}) {
		t.Errorf("changed: %s and %s", show(n), show(other))
	}
}

func TestSplitOfLeaves(t *testing.T) {
	v := func(n int) string { return strings.Repeat("v", n) }
	for i, x := range []struct {
		n  api.Node
		at int
	}{
		{leaf("a", "1", "b", "2"), 1}, {leaf("a", v(40), "b", ""), 1}, {leaf("a", "", "b", v(40)), 1},
		{leaf("a", "1", "b", "2", "c", "3"), 2},
		{leaf("a", "1", "b", "2", "c", "3", "d", "4"), 2},
		{leaf("a", v(40), "b", "", "c", "", "d", ""), 1},
		{leaf("a", "", "b", "", "c", "", "d", v(40)), 3},
		{leaf("a", "", "b", v(40), "c", "", "d", ""), 2},
		// 3 and 3 and 6: the first two are just the half; one byte more behind them, and they are less.
		{leaf("a", "", "b", "", "c", v(3)), 2},
		{leaf("a", v(3), "b", "", "c", ""), 1}, {leaf("a", v(3), "b", "1", "c", ""), 2}, {leaf("a", v(3), "b", "", "c", "1"), 2}, {leaf("a", v(4), "b", "1", "c", ""), 1},
		{leaf("", "", "", ""), 1}, {leaf("b", "1", "a", "2", "a", "3"), 2},
		{api.Node{Leaf: true, Pairs: pairsOf("a", "1", "b", "2"), Keys: []string{"k", "l", "m"}, Kids: []int{1, 2, 3, 4}}, 1},
	} {
		a, b, k := node.Split(x.n)
		wa, wb := api.Node{Leaf: true, Pairs: x.n.Pairs[:x.at]}, api.Node{Leaf: true, Pairs: x.n.Pairs[x.at:]}
		if !same(a, wa) || !same(b, wb) || k != x.n.Pairs[x.at].Key {
			t.Errorf("%d: %s and %s, %q", i, show(a), show(b), k)
		}
	}
}

func TestSplitOfInnerNodes(t *testing.T) {
	for i, x := range []struct {
		keys []string
		at   int
	}{
		{[]string{"a", "b", "c"}, 1}, {[]string{long("a", 32), "b", "c"}, 1}, {[]string{"a", "b", long("c", 32)}, 1},
		{[]string{"a", "b", "c", "d"}, 2}, {[]string{"a", "b", "c", "d", "e"}, 3}, {[]string{"a", "b", "c", "d", "e", "f"}, 3},
		{[]string{long("a", 32), "b", "c", "d", "e"}, 1}, {[]string{"a", "b", "c", "d", long("e", 32)}, 3}, {[]string{"a", long("b", 32), "c", "d", "e"}, 2},
		// 12 of 24 is just the half; of 25 it is less.
		{[]string{long("a", 9), "b", "c", "d"}, 1}, {[]string{long("a", 9), "b", "c", "dd"}, 2}, {[]string{long("a", 9), "bb", "c", "d"}, 2},
		{[]string{"", "", ""}, 1}, {[]string{"d", "c", "b", "a"}, 2},
	} {
		for _, more := range [][]api.Pair{nil, pairsOf("a", "1", "b", "2")} {
			n := inner(x.keys...)
			n.Pairs = more
			a, b, k := node.Split(n)
			wa, wb := api.Node{Keys: n.Keys[:x.at], Kids: n.Kids[:x.at+1]}, api.Node{Keys: n.Keys[x.at+1:], Kids: n.Kids[x.at+1:]}
			if !same(a, wa) || !same(b, wb) || k != n.Keys[x.at] {
				t.Errorf("%d: %s and %s, %q", i, show(a), show(b), k)
			}
		}
	}
}

// Nodes that have too little to be split, or kids that don't fit their keys: the node as it is, and nothing.
func TestSplitOfTooLittle(t *testing.T) {
	fit := inner("a", "b", "c")
	for i, n := range []api.Node{
		{}, {Leaf: true}, leaf("a", "1"), leaf("", ""), inner(), inner("a"), inner("a", "b"),
		{Leaf: true, Keys: fit.Keys, Kids: fit.Kids}, {Leaf: true, Pairs: pairsOf("a", "1"), Keys: fit.Keys, Kids: fit.Kids}, {Pairs: pairsOf("a", "1", "b", "2", "c", "3")},
		{Keys: fit.Keys}, {Keys: fit.Keys, Kids: []int{1}}, {Keys: fit.Keys, Kids: []int{1, 2, 3}}, {Keys: fit.Keys, Kids: []int{1, 2, 3, 4, 5}}, {Kids: []int{1, 2, 3, 4}}, {Keys: fit.Keys[:2], Kids: fit.Kids},
	} {
		before := clone(n)
		a, b, k := node.Split(n)
		if !same(a, before) || !same(b, api.Node{}) || k != "" || !same(n, before) {
			t.Errorf("%d: %s and %s, %q", i, show(a), show(b), k)
		}
	}
}

func TestJoin(t *testing.T) {
	x, y := leaf("a", "1", "b", "2"), leaf("c", "3")
	p, q := inner("a", "b"), api.Node{Keys: []string{"d"}, Kids: []int{8, 9}}
	mixed := api.Node{Leaf: true, Pairs: pairsOf("m", "1"), Keys: []string{"k"}, Kids: []int{5}}
	for i, c := range []struct{ got, want api.Node }{
		{node.Join(x, y, "k"), leaf("a", "1", "b", "2", "c", "3")},
		{node.Join(y, x, ""), leaf("c", "3", "a", "1", "b", "2")},
		{node.Join(x, leaf(), "k"), x}, {node.Join(leaf(), x, "k"), x}, {node.Join(leaf(), leaf(), "k"), leaf()}, {node.Join(x, x, "k"), leaf("a", "1", "b", "2", "a", "1", "b", "2")},
		{node.Join(p, q, "c"), api.Node{Keys: []string{"a", "b", "c", "d"}, Kids: []int{1, 2, 3, 8, 9}}},
		{node.Join(q, p, ""), api.Node{Keys: []string{"d", "", "a", "b"}, Kids: []int{8, 9, 1, 2, 3}}},
		{node.Join(inner(), inner(), "c"), api.Node{Keys: []string{"c"}, Kids: []int{1, 1}}},
		{node.Join(api.Node{}, api.Node{}, "c"), api.Node{Keys: []string{"c"}}},
		{node.Join(x, p, "k"), x}, {node.Join(p, x, "c"), api.Node{Keys: []string{"a", "b", "c"}, Kids: []int{1, 2, 3}}},
		{node.Join(mixed, mixed, "c"), leaf("m", "1", "m", "1")},
		{node.Join(x, api.Node{Pairs: pairsOf("m", "1"), Keys: []string{"k"}}, "c"), leaf("a", "1", "b", "2", "m", "1")},
		{node.Join(p, mixed, "c"), api.Node{Keys: []string{"a", "b", "c", "k"}, Kids: []int{1, 2, 3, 5}}},
		{node.Join(api.Node{Pairs: pairsOf("m", "1"), Kids: []int{3}}, q, "c"), api.Node{Keys: []string{"c", "d"}, Kids: []int{3, 8, 9}}},
	} {
		if !same(c.got, c.want) {
			t.Errorf("%d: %s, not %s", i, show(c.got), show(c.want))
		}
	}
}

// roomy is the node with room behind its lists, that holds things which nobody may change.
func roomy(n api.Node) api.Node {
	pairs := append(slices.Clone(n.Pairs), pairsOf("z1", "z1", "z2", "z2")...)
	keys := append(slices.Clone(n.Keys), "z1", "z2")
	kids := append(slices.Clone(n.Kids), 71, 72)
	return api.Node{Leaf: n.Leaf, Pairs: pairs[:len(n.Pairs)], Keys: keys[:len(n.Keys)], Kids: kids[:len(n.Kids)]}
}

// whole is the node with what lies behind its lists.
func whole(n api.Node) api.Node {
	return api.Node{Leaf: n.Leaf, Pairs: n.Pairs[:len(n.Pairs)+2], Keys: n.Keys[:len(n.Keys)+2], Kids: n.Kids[:len(n.Kids)+2]}
}

// spoil changes all that the lists of a node hold, and have room for.
func spoil(n api.Node) {
	for i := range n.Pairs[:cap(n.Pairs)] {
		n.Pairs[:cap(n.Pairs)][i] = api.Pair{Key: "spoilt", Value: "spoilt"}
	}
	for i := range n.Keys[:cap(n.Keys)] {
		n.Keys[:cap(n.Keys)][i] = "spoilt"
	}
	for i := range n.Kids[:cap(n.Kids)] {
		n.Kids[:cap(n.Kids)][i] = -77
	}
}

// No node that is handed in is changed, by the call or by who changes its answer; and no two that are answered share anything.
func TestNothingIsShared(t *testing.T) {
	nodes := []api.Node{{}, leaf(), leaf("a", "1"), leaf("a", "1", "b", "2", "c", "3"), inner(), inner("a"), inner("a", "b", "c"), inner("a", "b", "c", "d"), {Leaf: true, Pairs: pairsOf("b", "1"), Keys: []string{"b"}, Kids: []int{1}}}
	calls := []func(n, m api.Node) []api.Node{
		func(n, m api.Node) []api.Node { return []api.Node{node.Put(n, "b", "9")} },
		func(n, m api.Node) []api.Node { return []api.Node{node.Put(n, "z", "9")} },
		func(n, m api.Node) []api.Node { return []api.Node{node.Cut(n, "b")} },
		func(n, m api.Node) []api.Node { return []api.Node{node.Cut(n, "z")} },
		func(n, m api.Node) []api.Node { return []api.Node{node.Join(n, m, "k")} },
		func(n, m api.Node) []api.Node { return []api.Node{node.Join(m, n, "k")} },
		func(n, m api.Node) []api.Node { a, b, _ := node.Split(n); return []api.Node{a, b} },
		func(n, m api.Node) []api.Node { a, b, _ := node.Split(n); return []api.Node{b, a} },
		func(n, m api.Node) []api.Node {
			node.Size(n)
			node.Child(n, "b")
			node.Find(n, "b")
			node.Write(n)
			return nil
		},
	}
	for _, x := range nodes {
		for _, y := range nodes {
			for i, call := range calls {
				n, m := roomy(x), roomy(y)
				wn, wm := clone(whole(n)), clone(whole(m))
				got := call(n, m)
				if !same(whole(n), wn) || !same(whole(m), wm) {
					t.Errorf("call %d changes %s and %s", i, show(n), show(m))
				}
				for j, g := range got {
					behind := make([]api.Node, 0, 2)
					for _, o := range got[j+1:] {
						behind = append(behind, clone(o))
					}
					spoil(g)
					for k, o := range got[j+1:] {
						if !same(o, behind[k]) {
							t.Errorf("call %d: two answers share something", i)
						}
					}
				}
				if !same(whole(n), wn) || !same(whole(m), wm) {
					t.Errorf("call %d's answer shares something with %s and %s", i, show(n), show(m))
				}
			}
		}
	}
}

// What is read of a page is new each time.
func TestReadIsNew(t *testing.T) {
	for _, n := range []api.Node{leaf("a", "1", "b", "2"), inner("a", "b")} {
		s, _ := node.Write(n)
		a, _ := node.Read(s)
		spoil(a)
		if b, e := node.Read(s); e != api.OK || !same(b, n) {
			t.Errorf("%s and %d", show(b), e)
		}
	}
}
