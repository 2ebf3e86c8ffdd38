package base_test

import (
	"fmt"
	"strings"
	"testing"

	"factotum/api"
	"factotum/base"
	"factotum/device"
	"factotum/node"
	"factotum/pager"
)

// padded is s, and noughts behind it.
func padded(s string, n int) string { return s + strings.Repeat("\x00", n-len(s)) }

// entry is a table as the head tells it.
func entry(name string, root, pairs int) string {
	return string([]byte{byte(len(name))}) + name + string([]byte{byte(root >> 8), byte(root), byte(pairs >> 8), byte(pairs)})
}

// headOf is a head of these entries.
func headOf(entries ...string) string {
	return string([]byte{byte(len(entries))}) + strings.Join(entries, "")
}

// bitsOf is the bytes ahead of the head when these pages are used.
func bitsOf(used ...int) string {
	b := make([]byte, 20)
	for _, n := range used {
		b[n/8] |= 1 << (n % 8)
	}
	return string(b)
}

// laid is a device whose page 0 has these bits and this head, the page 1 is the first of the others, and so on.
func laid(t testing.TB, pages int, bits, head string, others ...string) *device.Device {
	t.Helper()
	d := fresh(pages)
	p, e := pager.Open(d, pages)
	if e != api.OK {
		t.Fatal("open of a pager:", e)
	}
	l := []pager.Change{{Page: 0, Data: bits + padded(head, 236)}}
	for i, s := range others {
		l = append(l, pager.Change{Page: i + 1, Data: s})
	}
	if e := p.Commit(l); e != api.OK {
		t.Fatal("commit of a pager:", e)
	}
	return d
}

// paged is a node's page.
func paged(t testing.TB, n api.Node) string {
	t.Helper()
	s, e := node.Write(n)
	if e != api.OK {
		t.Fatal("a node of the test's own may not be:", e)
	}
	return s
}

// leaf is the page of a leaf with these keys, each with itself as its value.
func leaf(t testing.TB, keys ...string) string {
	t.Helper()
	n := api.Node{Leaf: true}
	for _, k := range keys {
		n.Pairs = append(n.Pairs, api.Pair{Key: k, Value: k})
	}
	return paged(t, n)
}

// inner is the page of an inner node with two kids.
func inner(t testing.TB, left int, key string, right int) string {
	t.Helper()
	return paged(t, api.Node{Keys: []string{key}, Kids: []int{left, right}})
}

func wantOpen(t testing.TB, what string, d *device.Device, pages int, e api.Errno) {
	t.Helper()
	if b, err := base.Open(d, pages); (b != nil) != (e == api.OK) || err != e {
		t.Errorf("%s: open: %v and %d, not %d", what, b != nil, err, e)
	}
}

func TestHeads(t *testing.T) {
	one, two := leaf(t, "a"), leaf(t, "b", "c")
	d := laid(t, 8, bitsOf(1, 2), headOf(entry("_", 2, 2), entry("abcdefgh", 0, 0), entry("b", 1, 1)), one, two)
	b := opened(t, d, 8)
	x := begun(t, b)
	wantNames(t, "laid", x, "_", "abcdefgh", "b")
	wantCount(t, "laid", x, "_", 2, api.OK)
	wantGet(t, "laid", x, "_", "c", "c", true, api.OK)
	wantGet(t, "laid", x, "b", "a", "a", true, api.OK)
	wantCount(t, "laid", x, "abcdefgh", 0, api.OK)
	if !x.Sound() {
		t.Error("laid: not sound")
	}
	twelve := make([]string, 0, 13)
	for c := 'a'; c < 'm'; c++ {
		twelve = append(twelve, entry(strings.Repeat(string(c), 8), 0, 0))
	}
	thirteen := append(twelve, entry("z", 0, 0))
	for _, c := range []struct {
		what, head string
		e          api.Errno
	}{
		{"none", "", api.OK},
		{"no table", headOf(), api.OK},
		{"twelve", headOf(twelve...), api.OK},
		{"thirteen", headOf(thirteen...), api.ErrCorrupt},
		{"thirteen, as the byte says", "\x0d" + strings.Join(twelve, ""), api.ErrCorrupt},
		{"255, as the byte says", "\xff" + strings.Join(twelve, ""), api.ErrCorrupt},
		{"one more than there are", "\x02" + entry("t", 0, 0), api.ErrCorrupt},
		{"one less than there are", "\x01" + entry("t", 0, 0) + entry("u", 0, 0), api.ErrCorrupt},
		{"in order", headOf(entry("_", 0, 0), entry("a", 0, 0), entry("aa", 0, 0), entry("b", 0, 0)), api.OK},
		{"out of order", headOf(entry("b", 0, 0), entry("a", 0, 0)), api.ErrCorrupt},
		{"out of order: a letter ahead of _", headOf(entry("a", 0, 0), entry("_", 0, 0)), api.ErrCorrupt},
		{"out of order: the longer ahead", headOf(entry("aa", 0, 0), entry("a", 0, 0)), api.ErrCorrupt},
		{"the last one out of order", headOf(entry("b", 0, 0), entry("c", 0, 0), entry("a", 0, 0)), api.ErrCorrupt},
		{"twice", headOf(entry("a", 0, 0), entry("a", 0, 0)), api.ErrCorrupt},
		{"twice, not the same", headOf(entry("a", 0, 0), entry("a", 1, 1)), api.ErrCorrupt},
		{"an empty name", headOf(entry("", 0, 0)), api.ErrCorrupt},
		{"a great letter", headOf(entry("T", 0, 0)), api.ErrCorrupt},
		{"another letter", headOf(entry("é", 0, 0)), api.ErrCorrupt},
		{"no letter of any writing", headOf(entry("a\xff", 0, 0)), api.ErrCorrupt},
		{"a digit", headOf(entry("a1", 0, 0)), api.ErrCorrupt},
		{"a nought", headOf(entry("\x00", 0, 0)), api.ErrCorrupt},
		{"eight letters", headOf(entry("abcdefgh", 0, 0)), api.OK},
		{"nine letters", headOf(entry("abcdefghi", 0, 0)), api.ErrCorrupt},
		{"a text that goes on past the head", "\x01\xffabc", api.ErrCorrupt},
		{"a root with a pair", headOf(entry("t", 1, 1)), api.OK},
		{"the last page's", headOf(entry("t", 7, 1)), api.OK},
		{"a page that isn't there", headOf(entry("t", 8, 1)), api.ErrCorrupt},
		{"one that no base has", headOf(entry("t", 160, 1)), api.ErrCorrupt},
		{"the greatest root", headOf(entry("t", 65535, 1)), api.ErrCorrupt},
		{"a page that isn't there, of the second", headOf(entry("s", 1, 1), entry("t", 256, 1)), api.ErrCorrupt},
		{"pairs of the empty tree", headOf(entry("t", 0, 1)), api.ErrCorrupt},
		{"many of them", headOf(entry("t", 0, 256)), api.ErrCorrupt},
		{"no pairs of another one", headOf(entry("t", 1, 0)), api.ErrCorrupt},
		{"a great count", headOf(entry("t", 1, 65535)), api.OK},
		{"something behind", headOf(entry("t", 0, 0)) + "\x01", api.ErrCorrupt},
		{"something far behind", padded(headOf(entry("t", 0, 0)), 235) + "\x01", api.ErrCorrupt},
		{"something behind twelve", padded(headOf(twelve...), 235) + "\x80", api.ErrCorrupt},
		{"something behind no table", "\x00\x01", api.ErrCorrupt},
		{"all of it", strings.Repeat("\xff", 236), api.ErrCorrupt},
		{"ones", strings.Repeat("\x01", 236), api.ErrCorrupt},
	} {
		wantOpen(t, c.what, laid(t, 8, bitsOf(1, 7), c.head, one), 8, c.e)
		if readable(padded(c.head, 236), 8) != (c.e == api.OK) {
			t.Error(c.what, ": the second reading of heads says otherwise")
		}
	}
}

// readable is the second reading of heads: whether bytes are one's in a base of so many pages.
func readable(s string, pages int) bool {
	at, last := 1, ""
	if s[0] > 12 {
		return false
	}
	for range s[0] {
		n := int(s[at])
		if n < 1 || n > 8 {
			return false
		}
		name := s[at+1 : at+1+n]
		for i := range n {
			if !strings.Contains("abcdefghijklmnopqrstuvwxyz_", name[i:i+1]) {
				return false
			}
		}
		if name <= last {
			return false
		}
		last, at = name, at+1+n
		root, pairs := 256*int(s[at])+int(s[at+1]), 256*int(s[at+2])+int(s[at+3])
		if root >= pages || root == 0 && pairs != 0 || root != 0 && pairs == 0 {
			return false
		}
		at += 4
	}
	for ; at < len(s); at++ {
		if s[at] != 0 {
			return false
		}
	}
	return true
}

// TestHeadsWithAByteChanged: heads with each of their bytes made each other one, against the second reading.
func TestHeadsWithAByteChanged(t *testing.T) {
	const pages = 8
	head := padded(headOf(entry("_b", 0, 0), entry("ab", 1, 256), entry("b", 7, 3)), 236)
	well := 0
	p, d := onPages(t, pages)
	for at := range head {
		for c := range 256 {
			if at > 40 && c > 2 && c != 255 {
				continue
			}
			s := head[:at] + string([]byte{byte(c)}) + head[at+1:]
			e := api.ErrCorrupt
			if readable(s, pages) {
				e, well = api.OK, well+1
			}
			layHead(t, p, s)
			wantOpen(t, fmt.Sprintf("byte %d made %d", at, c), d, pages, e)
		}
	}
	if well < 300 {
		t.Error("only", well, "heads were any")
	}
}

// onPages is a pager, and its device.
func onPages(t testing.TB, pages int) (*pager.Pager, *device.Device) {
	t.Helper()
	d := fresh(pages)
	p, e := pager.Open(d, pages)
	if e != api.OK {
		t.Fatal("open of a pager:", e)
	}
	return p, d
}

// layHead lays another head onto a pager's page 0.
func layHead(t testing.TB, p *pager.Pager, head string) {
	t.Helper()
	if e := p.Commit([]pager.Change{{Page: 0, Data: bitsOf() + padded(head, 236)}}); e != api.OK {
		t.Fatal("commit of a pager:", e)
	}
}

// TestDrawnHeads: bytes that are nearly heads, against the second reading.
func TestDrawnHeads(t *testing.T) {
	dr := draws(11)
	well, ill := 0, 0
	for range 30000 {
		pages := 1 + dr.below(160)
		var b []byte
		n := dr.below(14)
		b = append(b, byte(n))
		last := byte('_')
		for range n {
			k := 1 + dr.below(8)
			if dr.below(40) == 0 {
				k = dr.below(12)
			}
			b = append(b, byte(k))
			for i := range k {
				c := byte('a' + dr.below(26))
				if i == 0 && dr.below(30) > 0 {
					last = min(last+1+byte(dr.below(2)), 'z')
					c = max(last, 'a')
				}
				b = append(b, c)
			}
			root, pairs := dr.below(pages), 1+dr.below(400)
			if dr.below(30) == 0 {
				root = dr.below(200)
			}
			if root == 0 && dr.below(10) > 0 {
				pairs = 0
			}
			b = append(b, byte(root>>8), byte(root), byte(pairs>>8), byte(pairs))
		}
		if dr.below(10) == 0 {
			b = append(b, byte(dr.below(3)))
		}
		s := padded(string(b), 236)
		e := api.ErrCorrupt
		if readable(s, pages) {
			e, well = api.OK, well+1
		} else {
			ill++
		}
		p, d := onPages(t, pages)
		layHead(t, p, s)
		wantOpen(t, fmt.Sprintf("%d pages, %q", pages, b), d, pages, e)
	}
	if well < 1000 || ill < 1000 {
		t.Error("heads that show too little:", well, ill)
	}
}

// TestHeadThatBecomesNone: what somebody writes past the base is found when the next transaction begins.
func TestHeadThatBecomesNone(t *testing.T) {
	d, b, x := start(t, 40)
	mustMake(t, x, "t")
	fill(t, x, "t", 0, 40)
	want(t, "commit", x.Commit(), api.OK)
	p, e := pager.Open(d, 40)
	if e != api.OK {
		t.Fatal(e)
	}
	layHead(t, p, "\x0d")
	if x, e := b.Begin(); e != api.ErrCorrupt || x != nil {
		t.Error("begin:", x != nil, e)
	}
}

// TestNotSound: bases that can be opened, and aren't sound.
func TestNotSound(t *testing.T) {
	a, bc, d := leaf(t, "a"), leaf(t, "b", "c"), leaf(t, "d")
	junk := strings.Repeat("x", 256)
	for _, c := range []struct {
		what   string
		bits   string
		head   string
		others []string
		sound  bool
	}{
		{"nothing", bitsOf(), headOf(), nil, true},
		{"page 0's own bit", bitsOf(0), headOf(), nil, true},
		{"bits of pages that aren't there", bitsOf(8, 9, 159), headOf(), nil, true},
		{"an empty table", bitsOf(), headOf(entry("t", 0, 0)), nil, true},
		{"two tables", bitsOf(1, 2), headOf(entry("t", 1, 1), entry("u", 2, 2)), []string{a, bc}, true},
		{"the other way", bitsOf(1, 2), headOf(entry("t", 2, 2), entry("u", 1, 1)), []string{a, bc}, true},
		{"a tree of two levels", bitsOf(1, 2, 3), headOf(entry("t", 3, 3)), []string{a, bc, inner(t, 1, "b", 2)}, true},
		{"a page that is used, of no table", bitsOf(5), headOf(), nil, false},
		{"one, of an empty table", bitsOf(1), headOf(entry("t", 0, 0)), []string{a}, false},
		{"one beside a tree", bitsOf(1, 7), headOf(entry("t", 1, 1)), []string{a}, false},
		{"a leaf beside a tree", bitsOf(1, 2, 3, 4), headOf(entry("t", 3, 3)), []string{a, bc, inner(t, 1, "b", 2), d}, false},
		{"a count that is too great", bitsOf(1), headOf(entry("t", 1, 2)), []string{a}, false},
		{"one that is too small", bitsOf(1), headOf(entry("t", 1, 1)), []string{bc}, false},
		{"the greatest", bitsOf(1), headOf(entry("t", 1, 65535)), []string{a}, false},
		{"that of another one", bitsOf(1, 2), headOf(entry("t", 1, 2), entry("u", 2, 1)), []string{a, bc}, false},
		{"256 too many", bitsOf(1), headOf(entry("t", 1, 257)), []string{a}, false},
		{"a root that isn't used", bitsOf(), headOf(entry("t", 1, 1)), []string{a}, false},
		{"a kid that isn't used", bitsOf(1, 3), headOf(entry("t", 3, 3)), []string{a, bc, inner(t, 1, "b", 2)}, false},
		{"a root that is no node", bitsOf(1), headOf(entry("t", 1, 1)), []string{junk}, false},
		{"a kid that is none", bitsOf(1, 2, 3), headOf(entry("t", 3, 3)), []string{a, junk, inner(t, 1, "b", 2)}, false},
		{"the second one's tree", bitsOf(1, 2), headOf(entry("t", 1, 1), entry("u", 2, 2)), []string{a, junk}, false},
		{"an empty leaf", bitsOf(1), headOf(entry("t", 1, 1)), []string{leaf(t)}, false},
		{"pairs on the wrong side", bitsOf(1, 2, 3), headOf(entry("t", 3, 3)), []string{a, bc, inner(t, 2, "b", 1)}, false},
		{"a kid twice", bitsOf(1, 3), headOf(entry("t", 3, 2)), []string{a, bc, inner(t, 1, "b", 1)}, false},
		{"a tree that goes round", bitsOf(1, 2), headOf(entry("t", 2, 2)), []string{a, inner(t, 1, "b", 2)}, false},
		{"one tree of two tables", bitsOf(1), headOf(entry("t", 1, 1), entry("u", 1, 1)), []string{a}, false},
		{"one tree of two tables, and a page of none", bitsOf(1, 2), headOf(entry("t", 1, 1), entry("u", 1, 1)), []string{a, bc}, false},
		{"a tree within another one", bitsOf(1, 2, 3), headOf(entry("t", 3, 3), entry("u", 2, 2)), []string{a, bc, inner(t, 1, "b", 2)}, false},
		{"that, and a page of none", bitsOf(1, 2, 3, 4), headOf(entry("t", 3, 3), entry("u", 2, 2)), []string{a, bc, inner(t, 1, "b", 2), d}, false},
	} {
		x := begun(t, opened(t, laid(t, 8, c.bits, c.head, c.others...), 8))
		for range 2 {
			if x.Sound() != c.sound {
				t.Errorf("%s: sound is %v", c.what, !c.sound)
			}
		}
		want(t, c.what+": commit", x.Commit(), api.OK)
	}
}

// TestTreesThatCantBeRead: layer 10's errors are handed on, and nothing has changed.
func TestTreesThatCantBeRead(t *testing.T) {
	junk := strings.Repeat("x", 256)
	for _, c := range []struct {
		bits string
		e    api.Errno
	}{{bitsOf(1, 2), api.ErrCorrupt}, {bitsOf(2), api.ErrIndex}} {
		x := begun(t, opened(t, laid(t, 8, c.bits, headOf(entry("t", 1, 1), entry("u", 2, 1)), junk, leaf(t, "a")), 8))
		was := seen(x)
		what := fmt.Sprint("error ", c.e)
		wantGet(t, what, x, "t", "a", "", false, c.e)
		want(t, what+": put", x.Put("t", "a", "1"), c.e)
		want(t, what+": put of a key that may not be", x.Put("t", "", "1"), api.ErrArg)
		wantDelete(t, what, x, "t", "a", false, c.e)
		wantScan(t, what, x, "t", "", "", nil, c.e)
		want(t, what+": kill", x.Kill("t"), c.e)
		wantCount(t, what, x, "t", 1, api.OK)
		if seen(x) != was {
			t.Error(what, ": something has changed")
		}
		wantGet(t, what, x, "u", "a", "a", true, api.OK)
		mustPut(t, x, "u", "b", "2")
		want(t, what+": commit", x.Commit(), api.OK)
	}
}

// TestCountsThatAreWrong: what comes of them can be written and opened again, and tells no pairs of an empty tree.
func TestCountsThatAreWrong(t *testing.T) {
	again := func(what string, d *device.Device, x *base.Tx, n int) *base.Tx {
		t.Helper()
		wantCount(t, what, x, "t", n, api.OK)
		k := x.Save()
		want(t, what+": back", x.Back(k), api.OK)
		wantCount(t, what, x, "t", n, api.OK)
		want(t, what+": commit", x.Commit(), api.OK)
		x = begun(t, opened(t, d, 8))
		wantCount(t, what+", opened again", x, "t", n, api.OK)
		return x
	}
	d := laid(t, 8, bitsOf(1), headOf(entry("t", 1, 1)), leaf(t, "a", "b", "c"))
	x := begun(t, opened(t, d, 8))
	wantDelete(t, "too small", x, "t", "a", true, api.OK)
	x = again("too small", d, x, 1)
	wantDelete(t, "too small", x, "t", "b", true, api.OK)
	x = again("too small", d, x, 1)
	if !x.Sound() {
		t.Error("one pair: not sound")
	}
	wantDelete(t, "too small", x, "t", "c", true, api.OK)
	again("too small", d, x, 0)

	d = laid(t, 8, bitsOf(1), headOf(entry("t", 1, 9)), leaf(t, "a", "b"))
	x = begun(t, opened(t, d, 8))
	wantDelete(t, "too great", x, "t", "a", true, api.OK)
	x = again("too great", d, x, 8)
	wantDelete(t, "too great", x, "t", "b", true, api.OK)
	x = again("too great", d, x, 0)
	if !x.Sound() {
		t.Error("no pair: not sound")
	}

	d = laid(t, 8, bitsOf(1), headOf(entry("t", 1, 65534)), leaf(t, "a"))
	x = begun(t, opened(t, d, 8))
	for _, key := range []string{"b", "c", "d"} {
		mustPut(t, x, "t", key, "")
		x = again("the greatest", d, x, 65535)
	}
	mustPut(t, x, "t", "a", "")
	again("the greatest", d, x, 65535)
}

// TestWhateverTheDeviceHolds: bases whose pages have bytes that were changed or drawn. Each call ends, an error changes nothing, and what is committed can be opened again.
func TestWhateverTheDeviceHolds(t *testing.T) {
	const pages = 30
	dr := draws(5)
	whole := fresh(pages)
	x := begun(t, opened(t, whole, pages))
	mustMake(t, x, "a", "b", "c", "d")
	fill(t, x, "a", 0, 30)
	fill(t, x, "b", 0, 5)
	mustPut(t, x, "c", "k", "v")
	want(t, "commit", x.Commit(), api.OK)
	p, e := pager.Open(whole, pages)
	if e != api.OK {
		t.Fatal(e)
	}
	var was []string
	for n := range pages {
		s, _ := p.Read(n)
		was = append(was, s)
	}
	open, refused := 0, 0
	for round := range 1500 {
		for n := range pages {
			s := []byte(was[n])
			for dr.below(6) == 0 {
				s[dr.below(256)] = byte(dr.below(256) >> dr.below(8))
			}
			switch {
			case n > 0 && dr.below(30) == 0:
				s = []byte(was[1+dr.below(pages-1)])
			case n == 0 && dr.below(3) == 0:
				s[20+1+2+1] = byte(dr.below(pages))
			case n == 0 && dr.below(3) == 0:
				s[dr.below(4)] = byte(dr.below(256))
			}
			if e := p.Commit([]pager.Change{{Page: n, Data: string(s)}}); e != api.OK {
				t.Fatal(e)
			}
		}
		b, e := base.Open(whole, pages)
		if e != api.OK {
			refused++
			want(t, "open", e, api.ErrCorrupt)
			continue
		}
		open++
		askAll(t, &dr, b, fmt.Sprint("round ", round))
		opened(t, whole, pages)
	}
	if open < 200 || refused < 200 {
		t.Error("devices that show too little:", open, refused)
	}
}

// askAll makes drawn calls of a base that may not be sound.
func askAll(t testing.TB, dr *draws, b *base.Base, what string) {
	t.Helper()
	x := begun(t, b)
	for range 25 {
		was := seen(x)
		name := []string{"a", "b", "c", "d", "e"}[dr.below(5)]
		key := fmt.Sprintf("%032d", dr.below(40))
		e := api.OK
		switch dr.below(9) {
		case 0:
			_, _, e = x.Get(name, key)
		case 1, 2:
			e = x.Put(name, key, strings.Repeat("w", dr.below(41)))
		case 3, 4:
			_, e = x.Delete(name, key)
		case 5:
			e = x.Kill(name)
		case 6:
			e = x.Make(name)
		case 7:
			x.Save()
		case 8:
			e = x.Back(dr.below(4))
		}
		if e != api.OK && seen(x) != was {
			t.Fatalf("%s: error %d, and something has changed: %s, not %s", what, e, seen(x), was)
		}
	}
	if e := x.Commit(); e != api.OK && e != api.ErrLong {
		t.Errorf("%s: commit: %d", what, e)
	}
}
