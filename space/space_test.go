package space_test

import (
	"fmt"
	"math"
	"slices"
	"strings"
	"testing"

	"factotum/api"
	"factotum/cache"
	"factotum/device"
	"factotum/pager"
	"factotum/space"
	"factotum/undo"
)

var zeros = strings.Repeat("\x00", 256)

// page is a page that is unlike another name's.
func page(name string) string { return (name + " " + strings.Repeat(name+".", 256))[:256] }

// withZeros is s, and 0s up to n bytes behind it.
func withZeros(s string, n int) string { return s + zeros[:n-len(s)] }

// bits is the first 20 bytes of page 0 when these pages' bits are 1.
func bits(pages ...int) string {
	b := make([]byte, 20)
	for _, n := range pages {
		b[n/8] += byte([]int{1, 2, 4, 8, 16, 32, 64, 128}[n%8])
	}
	return string(b)
}

// head is a head that is unlike another name's.
func head(name string) string { return page(name)[:236] }

// upTo is the numbers from a on, up to b; none, if b is less.
func upTo(a, b int) []int {
	var l []int
	for ; a <= b; a++ {
		l = append(l, a)
	}
	return l
}

// bench is a pager with its device, and a cache of it.
type bench struct {
	t *testing.T
	d *device.Device
	p *pager.Pager
	c *cache.Cache
}

// newBench has so many pages, full of 0s, and a cache of a size.
func newBench(t *testing.T, pages, size int) *bench {
	t.Helper()
	d := device.New(undo.Need(pages))
	p, e := pager.Open(d, pages)
	if e != api.OK {
		t.Fatalf("Open of %d pages: %d", pages, e)
	}
	return &bench{t, d, p, cache.New(p, size)}
}

// put commits a page past all works.
func (b *bench) put(n int, s string) {
	b.t.Helper()
	wantErr(b.t, fmt.Sprint("put page ", n), b.c.Commit([]pager.Change{{Page: n, Data: s}}), api.OK)
}

// fill makes all pages but page 0 ones with names of their own.
func (b *bench) fill(name string) {
	b.t.Helper()
	for n := 1; n < b.p.Size(); n++ {
		b.put(n, page(fmt.Sprint(name, n)))
	}
}

func (b *bench) begin() *space.Work {
	b.t.Helper()
	w, e := space.Begin(b.c)
	if w == nil || e != api.OK {
		b.t.Fatalf("Begin: %v and %d", w != nil, e)
	}
	return w
}

// stored is all that the pager reads.
func (b *bench) stored() []string {
	b.t.Helper()
	var l []string
	for n := range b.p.Size() {
		s, e := b.p.Read(n)
		if e != api.OK {
			b.t.Fatalf("page %d: %d", n, e)
		}
		l = append(l, s)
	}
	return l
}

// wantStored says that the pager, and the cache, don't read this.
func (b *bench) wantStored(what string, want []string) {
	b.t.Helper()
	for n, s := range b.stored() {
		if s != want[n] {
			b.t.Errorf("%s: the pager's page %d is %.24q, not %.24q", what, n, s, want[n])
		}
		if s, e := b.c.Read(n); s != want[n] || e != api.OK {
			b.t.Errorf("%s: the cache's page %d is %.24q and %d, not %.24q and 0", what, n, s, e, want[n])
		}
	}
}

// look is all that a work tells: of each page what Read answers, from page -1 on up to two that aren't there.
type look struct {
	used    int
	head    string
	changed []int
	pages   []string
	errs    []api.Errno
}

func (b *bench) look(w *space.Work) look {
	l := look{used: w.Used(), head: w.Head(), changed: w.Changed()}
	for n := -1; n <= b.p.Size()+1; n++ {
		s, e := w.Read(n)
		l.pages, l.errs = append(l.pages, s), append(l.errs, e)
	}
	return l
}

// wantLook says in what two looks are unlike.
func wantLook(t *testing.T, what string, got, want look) {
	t.Helper()
	if got.used != want.used || got.head != want.head || !slices.Equal(got.changed, want.changed) {
		t.Errorf("%s: used %d, head %.12q, changed %v, not %d, %.12q, %v", what, got.used, got.head, got.changed, want.used, want.head, want.changed)
	}
	for i := range want.pages {
		if got.pages[i] != want.pages[i] || got.errs[i] != want.errs[i] {
			t.Errorf("%s: page %d is %.12q and %d, not %.12q and %d", what, i-1, got.pages[i], got.errs[i], want.pages[i], want.errs[i])
		}
	}
}

func wantErr(t *testing.T, what string, got, want api.Errno) {
	t.Helper()
	if got != want {
		t.Errorf("%s: %d, not %d", what, got, want)
	}
}

func wantTake(t *testing.T, what string, w *space.Work, want int, wantE api.Errno) {
	t.Helper()
	if n, e := w.Take(); n != want || e != wantE {
		t.Errorf("%s: Take is %d and %d, not %d and %d", what, n, e, want, wantE)
	}
}

func wantPage(t *testing.T, what string, w *space.Work, n int, want string, wantE api.Errno) {
	t.Helper()
	if s, e := w.Read(n); s != want || e != wantE {
		t.Errorf("%s: page %d is %.12q and %d, not %.12q and %d", what, n, s, e, want, wantE)
	}
}

func wantUsed(t *testing.T, what string, w *space.Work, want int) {
	t.Helper()
	if n := w.Used(); n != want {
		t.Errorf("%s: %d are used, not %d", what, n, want)
	}
}

func wantHead(t *testing.T, what string, w *space.Work, want string) {
	t.Helper()
	if s := w.Head(); s != want {
		t.Errorf("%s: the head is %d bytes, %.12q, not %.12q", what, len(s), s, want)
	}
}

func wantChanged(t *testing.T, what string, w *space.Work, want ...int) {
	t.Helper()
	if l := w.Changed(); !slices.Equal(l, want) {
		t.Errorf("%s: changed are %v, not %v", what, l, want)
	}
}

func TestExample(t *testing.T) {
	w := newBench(t, 5, 2).begin()
	wantTake(t, "first", w, 1, api.OK)
	wantTake(t, "second", w, 2, api.OK)
	wantErr(t, "Drop of 1", w.Drop(1), api.OK)
	wantTake(t, "third", w, 1, api.OK)
}

func TestBeginOfNoCache(t *testing.T) {
	for name, c := range map[string]*cache.Cache{
		"nil": nil, "of no pager": cache.New(nil, 2), "one that nobody made": {}, "of a pager that nobody opened": cache.New(&pager.Pager{}, 2),
	} {
		if w, e := space.Begin(c); w != nil || e != api.ErrArg {
			t.Errorf("Begin of a cache, %s: %v and %d", name, w != nil, e)
		}
	}
}

// TestBeginOfEachSize: of whatever number of pages, and whatever the cache keeps, a work begins with what the cache reads, and has changed nothing.
func TestBeginOfEachSize(t *testing.T) {
	for _, pages := range []int{1, 2, 7, 8, 9, 16, 17, 31, 32, 160} {
		for _, size := range []int{0, 1, 3, 64} {
			what := fmt.Sprint(pages, " pages, cache of ", size)
			b := newBench(t, pages, size)
			b.fill("p")
			b.put(0, bits(upTo(0, pages-1)...)+head("h"))
			calls, was := b.d.Calls(), b.stored()
			w := b.begin()
			wantUsed(t, what, w, pages)
			wantHead(t, what, w, head("h"))
			wantChanged(t, what, w)
			for n := 1; n < pages; n++ {
				wantPage(t, what, w, n, page(fmt.Sprint("p", n)), api.OK)
			}
			for _, n := range []int{math.MinInt, -1, 0, pages, pages + 1, 160, 161, math.MaxInt} {
				wantPage(t, what, w, n, "", api.ErrIndex)
			}
			wantTake(t, what, w, 0, api.ErrFull)
			b.wantStored(what, was)
			if b.d.Calls() != calls {
				t.Errorf("%s: a work that changes nothing called the device", what)
			}
		}
	}
}

// TestBitOfEachPage: each page's bit, as the chapter lays it, is read and written in its byte.
func TestBitOfEachPage(t *testing.T) {
	for _, x := range []struct {
		n, at int
		bit   byte
	}{{1, 0, 2}, {6, 0, 64}, {7, 0, 128}, {8, 1, 1}, {9, 1, 2}, {15, 1, 128}, {16, 2, 1}, {152, 19, 1}, {159, 19, 128}} {
		raw := []byte(zeros)
		raw[x.at] = x.bit
		if s := bits(x.n) + zeros[:236]; s != string(raw) {
			t.Fatalf("the bit of page %d is wrong in these tests", x.n)
		}
	}
	for n := 1; n < 160; n++ {
		b := newBench(t, 160, 2)
		b.put(n, page("p"))
		b.put(0, bits(n)+head("h"))
		w := b.begin()
		wantUsed(t, fmt.Sprint("the bit of ", n), w, 2)
		for m := 1; m < 160; m++ {
			if s, e := w.Read(m); m != n && (s != "" || e != api.ErrIndex) || m == n && (s != page("p") || e != api.OK) {
				t.Errorf("the bit of page %d: page %d is %.12q and %d", n, m, s, e)
			}
		}
		wantErr(t, "Drop", w.Drop(n), api.OK)
		wantErr(t, "Commit", w.Commit(), api.OK)
		if s, _ := b.p.Read(0); s != zeros[:20]+head("h") {
			t.Errorf("page %d was dropped: page 0 is %.24q", n, s)
		}
	}
}

// TestPage0BehindTakes: behind n takes page 0 has just the bits of the pages 1 to n, whatever number of pages there is.
func TestPage0BehindTakes(t *testing.T) {
	for _, pages := range []int{1, 2, 7, 8, 9, 10, 159, 160} {
		for n := range pages {
			b := newBench(t, pages, 1)
			w := b.begin()
			for k := range n {
				wantTake(t, fmt.Sprint("of ", pages), w, k+1, api.OK)
			}
			wantUsed(t, fmt.Sprint(n, " takes of ", pages), w, n+1)
			if n == pages-1 {
				wantTake(t, fmt.Sprint("one more of ", pages), w, 0, api.ErrFull)
			}
			wantErr(t, "SetHead", w.SetHead("h"), api.OK)
			wantErr(t, "Commit", w.Commit(), api.OK)
			if s, _ := b.p.Read(0); s != bits(upTo(1, n)...)+withZeros("h", 236) {
				t.Errorf("%d takes of %d: page 0 is %.24q", n, pages, s)
			}
		}
	}
}

// TestBitsThatPlayNoPart: page 0's own bit, and those of pages that aren't there, say nothing, and stay as they are.
func TestBitsThatPlayNoPart(t *testing.T) {
	for _, pages := range []int{1, 2, 7, 8, 9, 100, 159} {
		for _, first := range [][]int{nil, {0}} {
			for _, behind := range [][]int{nil, {pages}, {159}, upTo(pages, 159)} {
				idle := slices.Compact(slices.Concat(first, behind))
				what := fmt.Sprint(pages, " pages, bits of ", first, " and ", behind)
				b := newBench(t, pages, 3)
				b.put(0, bits(idle...)+head("h"))
				w := b.begin()
				wantUsed(t, what, w, 1)
				wantHead(t, what, w, head("h"))
				wantChanged(t, what, w)
				for _, n := range []int{0, pages, 159, 160} {
					wantPage(t, what, w, n, "", api.ErrIndex)
					wantErr(t, what, w.Write(n, page("x")), api.ErrIndex)
					wantErr(t, what, w.Drop(n), api.ErrIndex)
				}
				for n := 1; n < pages; n++ {
					wantTake(t, what, w, n, api.OK)
				}
				wantTake(t, what, w, 0, api.ErrFull)
				wantUsed(t, what, w, pages)
				wantErr(t, what, w.SetHead("new"), api.OK)
				wantErr(t, what, w.Commit(), api.OK)
				if s, _ := b.p.Read(0); s != bits(slices.Concat(idle, upTo(1, pages-1))...)+withZeros("new", 236) {
					t.Errorf("%s: page 0 is %.24q", what, s)
				}
			}
		}
	}
}

// TestPagesThatCantBeAsked: each call of a page that isn't there, is page 0 or isn't used, changes nothing.
func TestPagesThatCantBeAsked(t *testing.T) {
	b := newBench(t, 9, 2)
	b.fill("p")
	b.put(0, bits(0, 1, 3, 8)+head("h"))
	w := b.begin()
	wantErr(t, "Write", w.Write(3, page("new")), api.OK)
	wantErr(t, "Drop", w.Drop(8), api.OK)
	before := b.look(w)
	for _, n := range []int{math.MinInt, -160, -8, -1, 0, 2, 4, 7, 8, 9, 10, 16, 159, 160, 161, 1 << 32, math.MaxInt} {
		wantPage(t, "no such page", w, n, "", api.ErrIndex)
		wantErr(t, fmt.Sprint("Drop of ", n), w.Drop(n), api.ErrIndex)
		// Where two errors would do, ErrIndex is the one that is named first.
		for _, s := range []string{page("x"), zeros, "", page("x")[1:], page("x") + "x"} {
			wantErr(t, fmt.Sprint("Write of ", n, ", ", len(s), " bytes"), w.Write(n, s), api.ErrIndex)
		}
		wantLook(t, fmt.Sprint("page ", n), b.look(w), before)
	}
}

func TestWriteOfEachLength(t *testing.T) {
	b := newBench(t, 4, 2)
	w := b.begin()
	wantTake(t, "first", w, 1, api.OK)
	wantTake(t, "second", w, 2, api.OK)
	wantErr(t, "Write", w.Write(1, page("a")), api.OK)
	before := b.look(w)
	for n := range 600 {
		if n == 256 {
			continue
		}
		wantErr(t, fmt.Sprint("Write of ", n, " bytes"), w.Write(1, strings.Repeat("x", n)), api.ErrArg)
	}
	wantLook(t, "behind writes that were refused", b.look(w), before)
	all := make([]byte, 256)
	for i := range all {
		all[i] = byte(255 - i)
	}
	for _, s := range []string{zeros, page("b"), string(all), page("a")} {
		wantErr(t, "Write of 256 bytes", w.Write(1, s), api.OK)
		wantPage(t, "behind Write", w, 1, s, api.OK)
		wantPage(t, "the other", w, 2, zeros, api.OK)
	}
}

// TestTakeIsLowest: whichever pages are used, the lowest one that isn't is taken, up to the last, and each is full of 0s, whatever it was.
func TestTakeIsLowest(t *testing.T) {
	const pages = 7
	for set := range 1 << (pages - 1) {
		var used, free []int
		for n := 1; n < pages; n++ {
			if set>>(n-1)&1 == 1 {
				used = append(used, n)
			} else {
				free = append(free, n)
			}
		}
		b := newBench(t, pages, 2)
		b.fill("old")
		b.put(0, bits(used...)+head("h"))
		w := b.begin()
		for k, n := range free {
			what := fmt.Sprint("used ", used, ", take ", k)
			wantPage(t, what+", ahead", w, n, "", api.ErrIndex)
			wantTake(t, what, w, n, api.OK)
			wantPage(t, what, w, n, zeros, api.OK)
			wantUsed(t, what, w, 2+len(used)+k)
		}
		before := b.look(w)
		wantTake(t, "of none", w, 0, api.ErrFull)
		wantTake(t, "of none, again", w, 0, api.ErrFull)
		wantLook(t, "behind takes that were refused", b.look(w), before)
		for _, n := range used {
			wantPage(t, "used ahead", w, n, page(fmt.Sprint("old", n)), api.OK)
		}
		if t.Failed() {
			return
		}
	}
}

func TestDrop(t *testing.T) {
	b := newBench(t, 12, 4)
	w := b.begin()
	for n := 1; n < 12; n++ {
		wantTake(t, "at first", w, n, api.OK)
		wantErr(t, "Write", w.Write(n, page(fmt.Sprint("w", n))), api.OK)
	}
	for i, n := range []int{9, 1, 11, 7, 8} {
		wantErr(t, "Drop", w.Drop(n), api.OK)
		wantPage(t, "dropped", w, n, "", api.ErrIndex)
		wantErr(t, "Write of a dropped one", w.Write(n, page("x")), api.ErrIndex)
		wantErr(t, "Drop again", w.Drop(n), api.ErrIndex)
		wantUsed(t, fmt.Sprint(i+1, " drops"), w, 11-i)
	}
	for _, n := range []int{2, 3, 4, 5, 6, 10} {
		wantPage(t, "the others", w, n, page(fmt.Sprint("w", n)), api.OK)
	}
	// A page that was written and dropped ahead is full of 0s when it is taken again.
	for _, n := range []int{1, 7, 8, 9, 11} {
		wantTake(t, "again", w, n, api.OK)
		wantPage(t, "again", w, n, zeros, api.OK)
	}
	wantTake(t, "none is left", w, 0, api.ErrFull)
	wantErr(t, "Commit", w.Commit(), api.OK)
	w = b.begin()
	wantPage(t, "committed", w, 7, zeros, api.OK)
	wantPage(t, "committed", w, 10, page("w10"), api.OK)
	wantUsed(t, "committed", w, 12)
}

// TestTakeOfACommittedPage: a page that was committed, dropped and taken again is full of 0s, in the cache too.
func TestTakeOfACommittedPage(t *testing.T) {
	b := newBench(t, 3, 2)
	w := b.begin()
	wantTake(t, "first", w, 1, api.OK)
	wantErr(t, "Write", w.Write(1, page("a")), api.OK)
	wantErr(t, "Commit", w.Commit(), api.OK)
	w = b.begin()
	wantErr(t, "Drop", w.Drop(1), api.OK)
	wantChanged(t, "dropped", w, 0)
	wantErr(t, "Commit", w.Commit(), api.OK)
	b.wantStored("dropped", []string{zeros, page("a"), zeros})
	w = b.begin()
	wantPage(t, "dropped", w, 1, "", api.ErrIndex)
	wantTake(t, "again", w, 1, api.OK)
	wantPage(t, "again", w, 1, zeros, api.OK)
	wantChanged(t, "again", w, 0, 1)
	wantErr(t, "Commit", w.Commit(), api.OK)
	b.wantStored("taken again", []string{bits(1) + zeros[20:], zeros, zeros})
}

func TestHead(t *testing.T) {
	for _, used := range [][]int{nil, {1}, {0, 2}} {
		b := newBench(t, 3, 2)
		b.put(0, bits(used...)+head("old"))
		w := b.begin()
		wantHead(t, "at first", w, head("old"))
		for _, n := range []int{236, 235, 0, 1, 236, 100, 99, 2, 235, 0} {
			s := head(fmt.Sprint("n", n))[:n]
			wantErr(t, fmt.Sprint("SetHead of ", n, " bytes"), w.SetHead(s), api.OK)
			wantHead(t, fmt.Sprint(n, " bytes"), w, withZeros(s, 236))
		}
		wantErr(t, "SetHead", w.SetHead("a\xff\x00b"), api.OK)
		before := b.look(w)
		for _, n := range []int{237, 238, 256, 1000, 1 << 20} {
			wantErr(t, fmt.Sprint("SetHead of ", n, " bytes"), w.SetHead(strings.Repeat("x", n)), api.ErrLong)
		}
		wantLook(t, "behind heads that were refused", b.look(w), before)
		wantErr(t, "Commit", w.Commit(), api.OK)
		b.wantStored("behind all", []string{bits(used...) + withZeros("a\xff\x00b", 236), zeros, zeros})
		wantHead(t, "another work", b.begin(), withZeros("a\xff\x00b", 236))
	}
}

func TestChanged(t *testing.T) {
	b := newBench(t, 8, 2)
	b.put(2, page("two"))
	b.put(5, page("five"))
	b.put(6, page("six"))
	b.put(0, bits(2, 5)+head("h"))
	w := b.begin()
	wantChanged(t, "at first", w)
	wantErr(t, "Write", w.Write(5, page("new")), api.OK)
	wantChanged(t, "one was written", w, 5)
	wantErr(t, "Write", w.Write(2, page("two")), api.OK)
	wantChanged(t, "one was written to what it was", w, 5)
	wantErr(t, "Write", w.Write(5, page("five")), api.OK)
	wantChanged(t, "written back", w)
	wantErr(t, "SetHead", w.SetHead("x"), api.OK)
	wantChanged(t, "the head", w, 0)
	wantErr(t, "SetHead", w.SetHead(head("h")), api.OK)
	wantChanged(t, "the head is what it was", w)
	wantTake(t, "a page of 0s", w, 1, api.OK)
	wantChanged(t, "a page of 0s that is taken is what the cache reads", w, 0)
	wantErr(t, "Write", w.Write(1, page("one")), api.OK)
	wantErr(t, "Write", w.Write(2, page("new")), api.OK)
	wantChanged(t, "in order", w, 0, 1, 2)
	wantErr(t, "Drop", w.Drop(1), api.OK)
	wantChanged(t, "dropped again: it isn't used, and page 0 is what it was", w, 2)
	wantTake(t, "one", w, 1, api.OK)
	wantTake(t, "three", w, 3, api.OK)
	wantTake(t, "four", w, 4, api.OK)
	wantTake(t, "six, which wasn't 0s", w, 6, api.OK)
	wantChanged(t, "taken", w, 0, 2, 6)
	wantErr(t, "Write", w.Write(6, page("six")), api.OK)
	wantChanged(t, "as the cache reads it, of old", w, 0, 2)
	wantErr(t, "Drop", w.Drop(2), api.OK)
	wantErr(t, "Drop", w.Drop(5), api.OK)
	wantChanged(t, "dropped", w, 0)
	wantUsed(t, "dropped", w, 5)
	l := w.Changed()
	l[0] = 7
	_ = append(l, 6)
	wantChanged(t, "a list that was changed", w, 0)
}

// calls is each call of a work that answers an error, with arguments that may be and that may not.
func calls(w *space.Work) map[string]api.Errno {
	m := map[string]api.Errno{}
	for _, n := range []int{math.MinInt, -1, 0, 1, 2, 5, 160, math.MaxInt} {
		_, m[fmt.Sprint("Read of ", n)] = w.Read(n)
		for _, s := range []string{"", page("x"), page("x") + "x"} {
			m[fmt.Sprint("Write of ", n, ", ", len(s), " bytes")] = w.Write(n, s)
		}
		m[fmt.Sprint("Drop of ", n)] = w.Drop(n)
		m[fmt.Sprint("Back of ", n)] = w.Back(n)
	}
	for _, n := range []int{0, 1, 236, 237} {
		m[fmt.Sprint("SetHead of ", n, " bytes")] = w.SetHead(page("x")[:n])
	}
	_, m["Take"] = w.Take()
	m["Commit"] = w.Commit()
	return m
}

// wantNothing says that a work doesn't answer this error to all calls, or something beside it.
func wantNothing(t *testing.T, what string, w *space.Work, want api.Errno) {
	t.Helper()
	for range 2 {
		for call, e := range calls(w) {
			wantErr(t, what+": "+call, e, want)
		}
		for _, n := range []int{-1, 0, 1, 5} {
			wantPage(t, what, w, n, "", want)
		}
		wantTake(t, what, w, 0, want)
		if k := w.Save(); k != 0 {
			t.Errorf("%s: Save is %d", what, k)
		}
		wantUsed(t, what, w, 0)
		wantHead(t, what, w, "")
		wantChanged(t, what, w)
	}
}

func TestNil(t *testing.T) {
	wantNothing(t, "nil", nil, api.ErrArg)
	wantNothing(t, "one that nobody began", &space.Work{}, api.ErrArg)
}
