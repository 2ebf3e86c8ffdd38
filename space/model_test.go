package space_test

import (
	"fmt"
	"maps"
	"slices"
	"testing"

	"factotum/api"
	"factotum/space"
)

// draws is a row of numbers that look drawn, the same ones each time.
type draws uint64

func (d *draws) next() uint64 {
	*d = *d*6364136223846793005 + 1442695040888963407
	x := uint64(*d)
	return (x ^ x>>29) * 0xbf58476d1ce4e5b9 >> 16
}

func (d *draws) below(n int) int { return int(d.next() % uint64(n)) }

// model is a work as the chapter tells it, the other way: the pages that are used lie in a map, and a note is a copy of all.
type model struct {
	size int
	// idle is page 0's bits that play no part.
	idle  []int
	head  string
	used  map[int]string
	notes []model
}

// modelOf is a model of a work that begins with these pages.
func modelOf(stored []string) model {
	m := model{size: len(stored), head: stored[0][20:], used: map[int]string{}}
	for n := range 160 {
		one := int(stored[0][n/8])>>(n%8)%2 == 1
		if one && n > 0 && n < m.size {
			m.used[n] = stored[n]
		} else if one {
			m.idle = append(m.idle, n)
		}
	}
	return m
}

func (m *model) take() (int, api.Errno) {
	for n := 1; n < m.size; n++ {
		if _, there := m.used[n]; !there {
			m.used[n] = zeros
			return n, api.OK
		}
	}
	return 0, api.ErrFull
}

func (m *model) drop(n int) api.Errno {
	if _, there := m.used[n]; !there {
		return api.ErrIndex
	}
	delete(m.used, n)
	return api.OK
}

func (m *model) write(n int, s string) api.Errno {
	if _, there := m.used[n]; !there {
		return api.ErrIndex
	}
	if len(s) != 256 {
		return api.ErrArg
	}
	m.used[n] = s
	return api.OK
}

func (m *model) setHead(s string) api.Errno {
	if len(s) > 236 {
		return api.ErrLong
	}
	m.head = withZeros(s, 236)
	return api.OK
}

func (m *model) save() int {
	m.notes = append(m.notes, model{head: m.head, used: maps.Clone(m.used)})
	return len(m.notes) - 1
}

func (m *model) back(k int) api.Errno {
	if k < 0 || k >= len(m.notes) {
		return api.ErrIndex
	}
	m.head, m.used = m.notes[k].head, maps.Clone(m.notes[k].used)
	m.notes = m.notes[:k+1]
	return api.OK
}

// pages is what the pages would be behind a commit, from what is stored now.
func (m *model) pages(stored []string) []string {
	l := slices.Clone(stored)
	on := slices.Clone(m.idle)
	for n, s := range m.used {
		on, l[n] = append(on, n), s
	}
	l[0] = bits(on...) + m.head
	return l
}

// changed is the pages that aren't stored so.
func (m *model) changed(stored []string) []int {
	var l []int
	for n, s := range m.pages(stored) {
		if s != stored[n] {
			l = append(l, n)
		}
	}
	return l
}

func (m *model) look(stored []string) look {
	l := look{used: len(m.used) + 1, head: m.head, changed: m.changed(stored)}
	for n := -1; n <= m.size+1; n++ {
		s, there := m.used[n]
		e := api.OK
		if !there {
			e = api.ErrIndex
		}
		l.pages, l.errs = append(l.pages, s), append(l.errs, e)
	}
	return l
}

// pair is a work and its model.
type pair struct {
	*bench
	w *space.Work
	m model
}

func (b *bench) pair() *pair { return &pair{b, b.begin(), modelOf(b.stored())} }

// check holds all that the work tells against the model.
func (p *pair) check(what string) {
	p.t.Helper()
	wantLook(p.t, what, p.bench.look(p.w), p.m.look(p.stored()))
}

func (p *pair) take(what string) {
	p.t.Helper()
	n, e := p.m.take()
	wantTake(p.t, what, p.w, n, e)
}

// some does a drawn call that isn't a commit.
func (p *pair) some(d *draws, what string) {
	p.t.Helper()
	n := d.below(p.m.size+3) - 1
	switch d.below(12) {
	case 0, 1, 2:
		p.take(what)
	case 3, 4:
		wantErr(p.t, what+", Drop", p.w.Drop(n), p.m.drop(n))
	case 5, 6, 7:
		s := p.drawnPage(d, n, what)
		wantErr(p.t, what+", Write", p.w.Write(n, s), p.m.write(n, s))
	case 8:
		s := page(what)[:[]int{0, 1, 100, 235, 236, 237, 256}[d.below(7)]]
		wantErr(p.t, what+", SetHead", p.w.SetHead(s), p.m.setHead(s))
	case 9, 10:
		if k, want := p.w.Save(), p.m.save(); k != want {
			p.t.Errorf("%s: Save is %d, not %d", what, k, want)
		}
	case 11:
		k := d.below(len(p.m.notes)+2) - 1
		if d.below(2) == 0 {
			k = len(p.m.notes) - 1
		}
		wantErr(p.t, what+", Back", p.w.Back(k), p.m.back(k))
	}
}

// drawnPage is a new page, 0s, what is stored of page n, or one of another length.
func (p *pair) drawnPage(d *draws, n int, what string) string {
	switch d.below(8) {
	case 0:
		return zeros
	case 1:
		s, _ := p.p.Read(n)
		return s
	case 2:
		return (page(what) + "x")[:[]int{0, 1, 255, 257}[d.below(4)]]
	}
	return page(what)
}

// commit commits the work: all of its model is stored then, or nothing. It says whether the work is over.
func (p *pair) commit(what string, dead bool) bool {
	p.t.Helper()
	was, commits := p.stored(), p.p.Commits()
	changed, want := p.m.changed(was), api.OK
	switch {
	case dead:
		want = api.ErrState
	case len(changed) > 31:
		want = api.ErrLong
	case len(changed) > 0:
		commits++
	}
	wantErr(p.t, what+", Commit", p.w.Commit(), want)
	if p.p.Commits() != commits {
		p.t.Errorf("%s: %d commits of the pager's, not %d", what, p.p.Commits(), commits)
	}
	if want == api.OK {
		was = p.m.pages(was)
	}
	p.wantStored(what, was)
	return want != api.ErrLong
}

// TestDrawnRows: rows of all calls, of up to three works on one cache, behind each of which every work tells what its model tells.
func TestDrawnRows(t *testing.T) {
	d := draws(8)
	commits := 0
	for row := range 60 {
		pages := []int{1, 2, 3, 5, 8, 9, 17, 40, 160}[d.below(9)]
		b := newBench(t, pages, []int{0, 1, 2, 16, 64}[d.below(5)])
		b.put(0, bits(d.pagesOf(160)...)+head("drawn"))
		works := []*pair{b.pair()}
		for k := range 120 {
			what := fmt.Sprint("row ", row, ".", k)
			p := works[d.below(len(works))]
			switch d.below(14) {
			case 0:
				if p.commit(what, false) {
					commits++
					wantNothing(t, what, p.w, api.ErrState)
					p.w, p.m = b.begin(), modelOf(b.stored())
				}
			case 1:
				if len(works) < 3 {
					works = append(works, b.pair())
				}
			default:
				p.some(&d, what)
			}
			for _, p := range works {
				p.check(what)
			}
			if t.Failed() {
				return
			}
		}
	}
	if commits < 200 {
		t.Errorf("only %d commits", commits)
	}
}

// pagesOf is drawn pages below n, few or many, in order.
func (d *draws) pagesOf(n int) []int {
	var l []int
	few := 1 + d.below(5)
	for i := range n {
		if d.below(few) == 0 {
			l = append(l, i)
		}
	}
	return l
}

// TestTakenIsntTakenAgain: rows of takes and drops, of commits and ways back too; no page is taken that is held by who took it and didn't drop it.
func TestTakenIsntTakenAgain(t *testing.T) {
	d := draws(888)
	for row := range 80 {
		pages := []int{2, 3, 8, 9, 30, 160}[d.below(6)]
		b := newBench(t, pages, 2)
		w, held, saved := b.begin(), map[int]int{}, []map[int]int{}
		for k := range 200 {
			switch d.below(16) {
			case 0:
				if w.Commit() == api.OK {
					w, saved = b.begin(), nil
				}
			case 1:
				if w.Save() != len(saved) {
					t.Fatalf("row %d.%d: not note %d", row, k, len(saved))
				}
				saved = append(saved, maps.Clone(held))
			case 2:
				if j := d.below(len(saved) + 1); w.Back(j) == api.OK {
					held, saved = maps.Clone(saved[j]), saved[:j+1]
				}
			case 3, 4, 5, 6, 7:
				n := 1 + d.below(pages-1)
				if _, is := held[n]; is != (w.Drop(n) == api.OK) {
					t.Fatalf("row %d.%d: page %d is held: %v", row, k, n, is)
				}
				delete(held, n)
			default:
				n, e := w.Take()
				if _, is := held[n]; is || (e == api.ErrFull) != (len(held) == pages-1) || e == api.OK && (n < 1 || n >= pages) {
					t.Fatalf("row %d.%d: page %d is taken, with %d; %v are held", row, k, n, e, held)
				}
				if e == api.OK {
					held[n] = k
				}
			}
			if w.Used() != len(held)+1 {
				t.Fatalf("row %d.%d: %d are used, %d held", row, k, w.Used(), len(held))
			}
		}
	}
}

// TestDrawnCrashes: of works whose device stands still at a drawn call, one has happened wholly or not at all, and none is committed any more.
func TestDrawnCrashes(t *testing.T) {
	d := draws(88)
	for row := range 60 {
		b := newBench(t, []int{2, 5, 12}[d.below(3)], 2)
		p, other := b.pair(), b.pair()
		for k := range 10 {
			p.some(&d, fmt.Sprint("row ", row, ".", k))
			other.some(&d, fmt.Sprint("row ", row, ".", k))
		}
		what := fmt.Sprint("row ", row)
		was := b.stored()
		changed := p.m.changed(was)
		if len(changed) == 0 {
			continue
		}
		b.d.Stop(d.below(8*len(changed) + 7))
		wantErr(t, what, p.w.Commit(), api.ErrCrash)
		wantNothing(t, what, p.w, api.ErrState)
		b.wantStored(what, was)
		other.check(what)
		if !other.commit(what, true) {
			t.Errorf("%s: the other isn't over", what)
		}
		wantNothing(t, what, other.w, api.ErrState)
	}
}

// TestAllShortRows: all rows of six calls, of those that take, drop, note and go back, of a work with few pages.
func TestAllShortRows(t *testing.T) {
	b := newBench(t, 4, 4)
	const kinds, length = 7, 6
	rows := 1
	for range length {
		rows *= kinds
	}
	for row := range rows {
		p := b.pair()
		for k, rest := 0, row; k < length; k, rest = k+1, rest/kinds {
			what := fmt.Sprint("row ", row, ".", k)
			switch kind := rest % kinds; kind {
			case 0:
				p.take(what)
			case 1, 2:
				wantErr(t, what, p.w.Drop(kind), p.m.drop(kind))
			case 3:
				s := page(fmt.Sprint(k))
				wantErr(t, what, p.w.Write(1, s), p.m.write(1, s))
			case 4:
				p.w.Save()
				p.m.save()
			case 5, 6:
				wantErr(t, what, p.w.Back(kind-5), p.m.back(kind-5))
			}
		}
		p.check(fmt.Sprint("row ", row))
		if t.Failed() {
			return
		}
	}
}
