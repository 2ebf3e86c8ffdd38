package cache_test

import (
	"fmt"
	"slices"
	"testing"

	"factotum/api"
	"factotum/cache"
	"factotum/device"
	"factotum/pager"
)

// draws is a row of numbers that look drawn, the same ones each time.
type draws uint64

func (d *draws) next() uint64 {
	*d = *d*6364136223846793005 + 1442695040888963407
	x := uint64(*d)
	return (x ^ x>>29) * 0xbf58476d1ce4e5b9 >> 16
}

func (d *draws) below(n int) int { return int(d.next() % uint64(n)) }

// changes is drawn ones: mostly such as may be, of pages below n; at times one that may not.
func (d *draws) changes(n int, name string) []pager.Change {
	var l []pager.Change
	for range d.below(7) {
		c := change(d.below(n), fmt.Sprint(name, " ", len(l)))
		if !slices.ContainsFunc(l, func(x pager.Change) bool { return x.Page == c.Page }) {
			l = append(l, c)
		}
	}
	if len(l) == 0 {
		return l
	}
	switch k := d.below(len(l)); d.below(24) {
	case 0:
		l[k].Page = []int{-1, n, n + 1}[d.below(3)]
	case 1:
		l[k].Data = l[k].Data[:d.below(256)]
	case 2:
		l = append(l, l[k])
	case 3:
		l = append(l, make([]pager.Change, 32)...)
	}
	return l
}

// model is a cache as the chapter tells it, the other way: each page's last use is a number, and the greatest ones are kept.
type model struct {
	size, now    int
	used         map[int]int
	hits, misses int
}

// read uses a page.
func (m *model) read(n int) {
	if _, kept := m.used[n]; kept {
		m.hits++
	} else {
		m.misses++
	}
	m.now++
	m.used[n] = m.now
	for _, gone := range m.order()[min(m.size, len(m.used)):] {
		delete(m.used, gone)
	}
}

// order is the pages that are kept, the one used last first.
func (m *model) order() []int {
	var l []int
	for n := range m.used {
		l = append(l, n)
	}
	slices.SortFunc(l, func(a, b int) int { return m.used[b] - m.used[a] })
	return l
}

func (m *model) state() state { return state{m.order(), m.hits, m.misses} }

// bench is a cache of a pager, with a model of it, that rows of calls are tried on.
type bench struct {
	t     *testing.T
	d     *device.Device
	p     *pager.Pager
	c     *cache.Cache
	m     *model
	pages int
	dead  bool
}

func newBench(t *testing.T, pages, size int) *bench {
	p, d := filled(t, pages)
	return &bench{t: t, d: d, p: p, c: cache.New(p, size), m: &model{size: size, used: map[int]int{}}, pages: pages}
}

// read reads a page, there or not.
func (b *bench) read(n int, what string) {
	b.t.Helper()
	want, e := b.p.Read(n)
	got, f := b.c.Read(n)
	if got != want || f != e {
		b.t.Fatalf("%s: page %d: %.12q and %d, the pager %.12q and %d", what, n, got, f, want, e)
	}
	if e == api.OK {
		b.m.read(n)
	}
	b.look(what)
}

// look holds what the cache tells of itself against the model.
func (b *bench) look(what string) {
	b.t.Helper()
	wantState(b.t, what, b.c, b.m.state())
	if len(b.c.Kept()) > b.m.size || b.c.Pages() != b.pages {
		b.t.Fatalf("%s: %d are kept of %d pages", what, len(b.c.Kept()), b.c.Pages())
	}
}

// lookAll reads what is kept, from the latest on or the other way, and then, at times, every page.
func (b *bench) lookAll(w *draws, what string) {
	b.t.Helper()
	l := b.c.Kept()
	if w.below(2) == 0 {
		slices.Reverse(l)
	}
	if w.below(4) == 0 {
		l = append(l, upTo(0, b.pages-1)...)
	}
	for _, n := range l {
		b.read(n, what)
	}
}

// commit commits by the cache, or past it.
func (b *bench) commit(w *draws, what string) {
	b.t.Helper()
	l := w.changes(b.pages, what)
	if w.below(4) == 0 {
		b.p.Commit(l)
		return
	}
	if w.below(60) == 0 {
		b.d.Stop(w.below(8*len(l) + 8))
	}
	var ahead []string
	for n := range b.pages {
		s, _ := b.p.Read(n)
		ahead = append(ahead, s)
	}
	commits := b.p.Commits()
	e := b.c.Commit(l)
	if b.dead && e != api.ErrState {
		b.t.Fatalf("%s: %d, of a pager that goes on no more", what, e)
	}
	b.dead = b.dead || e == api.ErrCrash
	if e == api.OK && len(l) > 0 {
		commits++
		for _, x := range l {
			ahead[x.Page] = x.Data
		}
	}
	for n, want := range ahead {
		if s, _ := b.p.Read(n); s != want || b.p.Commits() != commits {
			b.t.Fatalf("%s: answered %d, and the pager's page %d is %.12q, not %.12q", what, e, n, s, want)
		}
	}
}

// TestDrawnRows: rows of reads and commits, behind each of which every page that is read is what the pager tells.
func TestDrawnRows(t *testing.T) {
	w := draws(7)
	crashes := 0
	for i, size := range []int{0, 1, 2, 3, 5, 8, 31, 64} {
		for j := range 12 {
			b := newBench(t, []int{1, 2, 5, 9, 40, 80}[w.below(6)], size)
			for k := range 150 {
				what := fmt.Sprint("row ", i, ".", j, ".", k)
				switch w.below(8) {
				case 0, 1:
					b.commit(&w, what)
					b.look(what)
				case 2:
					b.lookAll(&w, what)
				default:
					b.read(w.below(b.pages+2)-1, what)
				}
				if t.Failed() {
					return
				}
			}
			if b.dead {
				crashes++
				b.d.Crash([]bool{w.below(2) == 0, w.below(2) == 0}, w.below(3), w.below(65))
				b.lookAll(&w, "behind the crash")
			}
		}
	}
	if crashes < 10 || crashes > 80 {
		t.Errorf("%d rows of 96 with a crash", crashes)
	}
}

// TestAllShortRows: all rows of six reads of four pages, of small sizes.
func TestAllShortRows(t *testing.T) {
	p, _ := filled(t, 4)
	for size := range 4 {
		for row := range 1 << 12 {
			c, m := cache.New(p, size), &model{size: size, used: map[int]int{}}
			for k := range 6 {
				n := row >> (2 * k) & 3
				m.read(n)
				wantPage(t, "a row", c, n, page(first(n)))
				wantState(t, fmt.Sprintf("size %d, row %o, read %d", size, row, k), c, m.state())
			}
			if t.Failed() {
				return
			}
		}
	}
}
