package tree_test

import (
	"slices"
	"strconv"
	"strings"
	"testing"

	"factotum/api"
	"factotum/cache"
	"factotum/device"
	"factotum/node"
	"factotum/pager"
	"factotum/space"
	"factotum/tree"
	"factotum/undo"
)

// begun is a piece of work on so many new pages.
func begun(t *testing.T, pages int) *space.Work {
	t.Helper()
	p, e := pager.Open(device.New(undo.Need(pages)), pages)
	if e != api.OK {
		t.Fatal("open:", e)
	}
	w, e := space.Begin(cache.New(p, 8))
	if e != api.OK {
		t.Fatal("begin:", e)
	}
	return w
}

// over is a piece of work that is over.
func over(t *testing.T) *space.Work {
	t.Helper()
	w := begun(t, 4)
	if e := w.Commit(); e != api.OK {
		t.Fatal("commit:", e)
	}
	return w
}

// seen is all that can be told of a piece of work.
func seen(w *space.Work) string {
	var b strings.Builder
	for n := -1; n <= api.Pages; n++ {
		s, e := w.Read(n)
		b.WriteString(s + "|" + strconv.Itoa(int(e)) + "|")
	}
	b.WriteString(w.Head() + "|" + strconv.Itoa(w.Used()))
	for _, n := range w.Changed() {
		b.WriteString("|" + strconv.Itoa(n))
	}
	return b.String()
}

// page is the page of a node that may be.
func page(t *testing.T, n api.Node) string {
	t.Helper()
	s, e := node.Write(n)
	if e != api.OK {
		t.Fatal("a node of the test's own may not be:", e, n)
	}
	return s
}

// laid lays nodes on new pages, the first one on the page 1 and so on.
func laid(t *testing.T, w *space.Work, nodes ...api.Node) {
	t.Helper()
	for i, n := range nodes {
		at, e := w.Take()
		if e != api.OK || at != i+1 {
			t.Fatal("take:", at, e)
		}
		if e := w.Write(at, page(t, n)); e != api.OK {
			t.Fatal("write:", e)
		}
	}
}

// leafOf is a leaf with these keys, each with a value that names it.
func leafOf(keys ...string) api.Node {
	n := api.Node{Leaf: true}
	for _, k := range keys {
		n.Pairs = append(n.Pairs, api.Pair{Key: k, Value: "of " + k})
	}
	return n
}

// innerOf is an inner node: kids, and between them keys.
func innerOf(first int, rest ...any) api.Node {
	n := api.Node{Kids: []int{first}}
	for _, r := range rest {
		switch x := r.(type) {
		case string:
			n.Keys = append(n.Keys, x)
		case int:
			n.Kids = append(n.Kids, x)
		}
	}
	return n
}

func mustPut(t *testing.T, w *space.Work, root int, key, value string) int {
	t.Helper()
	now, e := tree.Put(w, root, key, value)
	if e != api.OK {
		t.Fatalf("put %q: %v", key, e)
	}
	return now
}

func mustDelete(t *testing.T, w *space.Work, root int, key string) int {
	t.Helper()
	now, there, e := tree.Delete(w, root, key)
	if e != api.OK || !there {
		t.Fatalf("delete %q: %v %v", key, there, e)
	}
	return now
}

// wantGet asks for a key.
func wantGet(t *testing.T, w *space.Work, root int, key, value string, there bool, e api.Errno) {
	t.Helper()
	if v, ok, err := tree.Get(w, root, key); v != value || ok != there || err != e {
		t.Errorf("get %q of %d: %q %v %v, not %q %v %v", key, root, v, ok, err, value, there, e)
	}
}

// wantScan asks for the keys from one up to another.
func wantScan(t *testing.T, w *space.Work, root int, from, to string, keys ...string) {
	t.Helper()
	l, e := tree.Scan(w, root, from, to)
	if e != api.OK {
		t.Errorf("scan %q to %q of %d: %v", from, to, root, e)
	}
	var got []string
	for _, p := range l {
		got = append(got, p.Key)
	}
	if !slices.Equal(got, keys) {
		t.Errorf("scan %q to %q of %d: %q, not %q", from, to, root, got, keys)
	}
}

func wantSound(t *testing.T, w *space.Work, root, pages, depth int, ok bool) {
	t.Helper()
	if n, d, o := tree.Sound(w, root); n != pages || d != depth || o != ok {
		t.Errorf("sound of %d: %d %d %v, not %d %d %v", root, n, d, o, pages, depth, ok)
	}
}

// wantAll asks each call for the error, with arguments of which nothing else is wrong; nothing may change.
func wantAll(t *testing.T, w *space.Work, root int, want api.Errno) {
	t.Helper()
	was := seen(w)
	wantGet(t, w, root, "k", "", false, want)
	if now, e := tree.Put(w, root, "k", "v"); now != root || e != want {
		t.Errorf("put in %d: %d %v, not %v", root, now, e, want)
	}
	if now, there, e := tree.Delete(w, root, "k"); now != root || there || e != want {
		t.Errorf("delete in %d: %d %v %v, not %v", root, now, there, e, want)
	}
	if l, e := tree.Scan(w, root, "", ""); len(l) != 0 || e != want {
		t.Errorf("scan of %d: %v %v, not %v", root, l, e, want)
	}
	if e := tree.Drop(w, root); e != want {
		t.Errorf("drop of %d: %v, not %v", root, e, want)
	}
	wantSound(t, w, root, 0, 0, false)
	if seen(w) != was {
		t.Errorf("root %d: something has changed", root)
	}
}

func TestExample(t *testing.T) {
	w := begun(t, 4)
	root := mustPut(t, w, 0, "a", "1")
	root = mustPut(t, w, root, "b", "2")
	root = mustDelete(t, w, root, "a")
	if l, e := tree.Scan(w, root, "", ""); e != api.OK || !slices.Equal(l, []api.Pair{{Key: "b", Value: "2"}}) {
		t.Error(l, e)
	}
	wantSound(t, w, root, 1, 1, true)
	if w.Used() != 2 {
		t.Error("used:", w.Used())
	}
}

func TestEmpty(t *testing.T) {
	w := begun(t, 4)
	was := seen(w)
	for _, key := range []string{"", "a", strings.Repeat("k", 33)} {
		wantGet(t, w, 0, key, "", false, api.OK)
		if now, there, e := tree.Delete(w, 0, key); now != 0 || there || e != api.OK {
			t.Error("delete:", now, there, e)
		}
		wantScan(t, w, 0, key, "")
		wantScan(t, w, 0, "", key)
	}
	if e := tree.Drop(w, 0); e != api.OK {
		t.Error("drop:", e)
	}
	wantSound(t, w, 0, 0, 0, true)
	if seen(w) != was {
		t.Error("something has changed")
	}
}

func TestLeaf(t *testing.T) {
	w := begun(t, 4)
	root := mustPut(t, w, 0, "m", "1")
	for _, value := range []string{"", "12", strings.Repeat("v", 40), "3"} {
		root = mustPut(t, w, root, "m", value)
		wantGet(t, w, root, "m", value, true, api.OK)
		wantSound(t, w, root, 1, 1, true)
	}
	for _, key := range []string{"", "l", "n", "mm", "\x00", "\xff", strings.Repeat("m", 33)} {
		wantGet(t, w, root, key, "", false, api.OK)
		was := seen(w)
		if now, there, e := tree.Delete(w, root, key); now != root || there || e != api.OK {
			t.Errorf("delete %q: %d %v %v", key, now, there, e)
		}
		if seen(w) != was {
			t.Errorf("delete %q: something has changed", key)
		}
	}
	if root = mustDelete(t, w, root, "m"); root != 0 || w.Used() != 1 {
		t.Error("behind the last pair:", root, w.Used())
	}
}

func TestPutEdges(t *testing.T) {
	for _, c := range []struct {
		key, value int
		want       api.Errno
	}{
		{0, 0, api.ErrArg}, {1, 0, api.OK}, {32, 0, api.OK}, {33, 0, api.ErrArg}, {256, 0, api.ErrArg},
		{1, 40, api.OK}, {32, 40, api.OK}, {1, 41, api.ErrArg}, {1, 256, api.ErrArg}, {0, 41, api.ErrArg}, {33, 41, api.ErrArg},
	} {
		key, value := strings.Repeat("k", c.key), strings.Repeat("v", c.value)
		for _, first := range []bool{true, false} {
			w := begun(t, 4)
			root := 0
			if !first {
				root = mustPut(t, w, 0, "a", "1")
			}
			was := seen(w)
			now, e := tree.Put(w, root, key, value)
			if e != c.want {
				t.Error(c, e)
			}
			if e == api.OK {
				wantGet(t, w, now, key, value, true, api.OK)
				continue
			}
			if now != root || seen(w) != was {
				t.Error(c, now, "something has changed")
			}
			// What may not be is told ahead of all else.
			for _, other := range []*space.Work{nil, {}, over(t), begun(t, 1)} {
				for _, root := range []int{-1, 0, 1, 2, 200} {
					if now, e := tree.Put(other, root, key, value); now != root || e != api.ErrArg {
						t.Error(c, root, now, e)
					}
				}
			}
		}
	}
}

func TestScanBounds(t *testing.T) {
	w := begun(t, 40)
	root := 0
	var keys []string
	for i := 10; i < 99; i += 2 {
		keys = append(keys, strconv.Itoa(i))
		root = mustPut(t, w, root, strconv.Itoa(i), strings.Repeat("v", 40))
	}
	if _, depth, _ := tree.Sound(w, root); depth < 2 {
		t.Fatal("too flat:", depth)
	}
	bounds := []string{"", "\x00", "0", "1", "5", "99", "\xff", strings.Repeat("\xff", 40)}
	for i := 9; i < 101; i++ {
		bounds = append(bounds, strconv.Itoa(i), strconv.Itoa(i)+"0")
	}
	for _, from := range bounds {
		for _, to := range bounds {
			var want []string
			for _, k := range keys {
				if k >= from && (k < to || to == "") {
					want = append(want, k)
				}
			}
			wantScan(t, w, root, from, to, want...)
		}
	}
}

func TestScanIsNew(t *testing.T) {
	w := begun(t, 4)
	root := mustPut(t, w, mustPut(t, w, 0, "a", "1"), "b", "2")
	l, _ := tree.Scan(w, root, "", "")
	l[0], l[1] = api.Pair{}, api.Pair{}
	wantScan(t, w, root, "", "", "a", "b")
}

func TestNoWork(t *testing.T) {
	for _, c := range []struct {
		w    *space.Work
		want api.Errno
	}{{nil, api.ErrArg}, {&space.Work{}, api.ErrArg}, {over(t), api.ErrState}} {
		for _, root := range []int{-1, 1, 2, 159, 160} {
			wantAll(t, c.w, root, c.want)
		}
		// Of the empty tree no page has to be read, but Put has to take one.
		if now, e := tree.Put(c.w, 0, "k", "v"); now != 0 || e != c.want {
			t.Error("put:", now, e)
		}
		wantGet(t, c.w, 0, "k", "", false, api.OK)
		if now, there, e := tree.Delete(c.w, 0, "k"); now != 0 || there || e != api.OK {
			t.Error("delete:", now, there, e)
		}
		wantScan(t, c.w, 0, "", "")
		if e := tree.Drop(c.w, 0); e != api.OK {
			t.Error("drop:", e)
		}
		wantSound(t, c.w, 0, 0, 0, true)
	}
}

// TestCommitted: a tree is nothing but its pages, so another piece of work has it too.
func TestCommitted(t *testing.T) {
	p, e := pager.Open(device.New(undo.Need(30)), 30)
	if e != api.OK {
		t.Fatal(e)
	}
	c := cache.New(p, 8)
	w, _ := space.Begin(c)
	root := 0
	for i := range 60 {
		root = mustPut(t, w, root, "k"+strconv.Itoa(i), "v")
	}
	if e := w.Commit(); e != api.OK {
		t.Fatal(e)
	}
	again, _ := space.Begin(c)
	if l, e := tree.Scan(again, root, "", ""); len(l) != 60 || e != api.OK {
		t.Error(len(l), e)
	}
	wantGet(t, again, root, "k59", "v", true, api.OK)
	root = mustDelete(t, again, root, "k59")
	wantGet(t, again, root, "k59", "", false, api.OK)
	if now, e := tree.Put(w, root, "x", ""); now != root || e != api.ErrState {
		t.Error(now, e)
	}
}

// TestNotes: the notes of a piece of work are left to whoever makes them.
func TestNotes(t *testing.T) {
	w := begun(t, 3)
	if k := w.Save(); k != 0 {
		t.Fatal(k)
	}
	root := 0
	for i := range 9 {
		now, e := tree.Put(w, root, "key"+strconv.Itoa(i), strings.Repeat("v", 40))
		if e != api.OK && e != api.ErrFull {
			t.Fatal(e)
		}
		root = now
	}
	root = mustDelete(t, w, root, "key0")
	if k := w.Save(); k != 1 {
		t.Error("the second note is", k)
	}
	if e := w.Back(0); e != api.OK || w.Used() != 1 {
		t.Error(e, w.Used())
	}
	wantAll(t, w, root, api.ErrIndex)
}
