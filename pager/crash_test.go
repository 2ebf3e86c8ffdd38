package pager_test

import (
	"fmt"
	"slices"
	"testing"

	"factotum/api"
	"factotum/device"
	"factotum/pager"
	"factotum/undo"
)

// draws is a row of numbers that look drawn, the same ones each time.
type draws uint64

func (d *draws) next() uint64 {
	*d = *d*6364136223846793005 + 1442695040888963407
	x := uint64(*d)
	return (x ^ x>>29) * 0xbf58476d1ce4e5b9 >> 16
}

func (d *draws) below(n int) int { return int(d.next() % uint64(n)) }

// crash is a crash: which unsure sectors are kept, which one is torn, and where.
type crash struct {
	keep      []bool
	torn, cut int
}

// crash is a drawn one.
func (d *draws) crash() crash {
	c := crash{torn: d.below(12) - 2, cut: []int{d.below(65), d.below(4), -1, 64, 100}[d.below(5)]}
	for range d.below(12) {
		c.keep = append(c.keep, d.below(2) == 0)
	}
	return c
}

// changes is drawn ones, of unlike pages below n.
func (d *draws) changes(n, most int, name string) []pager.Change {
	var l []pager.Change
	for range 1 + d.below(most) {
		c := change(d.below(n), fmt.Sprint(name, len(l)))
		if !slices.ContainsFunc(l, func(x pager.Change) bool { return x.Page == c.Page }) {
			l = append(l, c)
		}
	}
	return l
}

// eachCrash is each crash that a few unsure sectors can have: each choice of what is kept, each one torn, behind some bytes.
func eachCrash(unsure int, cuts ...int) []crash {
	var l []crash
	for set := range 1 << unsure {
		keep := make([]bool, unsure)
		for k := range keep {
			keep[k] = set>>k&1 == 1
		}
		l = append(l, crash{keep, -1, 0})
		for torn := range unsure {
			if keep[torn] {
				continue // a torn one isn't asked whether it is kept
			}
			for _, cut := range cuts {
				l = append(l, crash{keep, torn, cut})
			}
		}
	}
	return l
}

func (c crash) of(d *device.Device) { d.Crash(c.keep, c.torn, c.cut) }

// with is pages behind changes.
func with(was []string, l []pager.Change) []string {
	now := slices.Clone(was)
	for _, c := range l {
		now[c.Page] = c.Data
	}
	return now
}

// either says whether a pager has all pages as ahead, or all as behind; it ends the test if neither is so.
func either(t *testing.T, what string, p *pager.Pager, ahead, behind []string) (isBehind bool) {
	t.Helper()
	got := pages(t, p)
	if slices.Equal(got, behind) {
		return true
	}
	if !slices.Equal(got, ahead) {
		t.Fatalf("%s: %s is neither %s nor %s", what, heads(got), heads(ahead), heads(behind))
	}
	return false
}

// stopped is a device of three pages on which a commit of changes stood still at a call, and the pages ahead of it; all is well if it hasn't.
func stopped(t *testing.T, l []pager.Change, at int) (d *device.Device, was []string, e api.Errno) {
	t.Helper()
	d = device.New(undo.Need(3))
	p := opened(t, d, 3)
	// A longer journal than the next one's is there already, with other images.
	commit(t, p, change(2, "x"), change(1, "y"), change(0, "z"))
	commit(t, p, change(1, "a"), change(2, "b"))
	d.Stop(at)
	return d, []string{page("z"), page("a"), page("b")}, p.Commit(l)
}

// Each call of a commit, each choice of what is kept, each torn sector.
func TestCrashAtEachCallOfACommit(t *testing.T) {
	cuts := []int{0, 1, 2, 3, 4, 5, 31, 63, 64}
	for _, l := range [][]pager.Change{{change(1, "n")}, {change(2, "n")}} {
		for at := range 16 {
			again, _, _ := stopped(t, l, at)
			for _, c := range eachCrash(len(again.Unsure()), cuts...) {
				d, was, e := stopped(t, l, at)
				what := fmt.Sprintf("at %d, %v", at, c)
				if (e == api.OK) != (at >= 15) {
					t.Fatalf("%s: %d", what, e)
				}
				c.of(d)
				if isBehind := either(t, what, opened(t, d, 3), was, with(was, l)); e == api.OK && !isBehind {
					t.Fatalf("%s: a commit that ended well is gone", what)
				}
			}
		}
	}
}

// The chapter's example.
func TestCrashAtTheFifthWrite(t *testing.T) {
	for _, keep := range []bool{false, true} {
		d := device.New(undo.Need(2))
		p := opened(t, d, 2)
		commit(t, p, change(0, "a"), change(1, "b"))
		d.Stop(4)
		wantErr(t, "Commit", p.Commit([]pager.Change{change(0, "c"), change(1, "d")}), api.ErrCrash)
		d.Crash([]bool{keep}, -1, 0)
		wantPages(t, "both", opened(t, d, 2), []string{page("a"), page("b")})
	}
}

// A mark or a directory that is torn anywhere.
func TestCrashThatTearsAtEachByte(t *testing.T) {
	l := []pager.Change{change(2, "n"), change(0, "m")}
	for at := range 23 {
		for torn := range 10 {
			for cut := range 65 {
				for _, keep := range [][]bool{nil, {true}} {
					d, was, _ := stopped(t, l, at)
					d.Crash(keep, torn, cut)
					either(t, fmt.Sprintf("at %d, %d torn behind %d, kept %v", at, torn, cut, keep), opened(t, d, 3), was, with(was, l))
				}
			}
		}
	}
}

// What is behind the crash hangs on the mark alone: as ahead where it says yes or wasn't written, as behind where it says no again.
func TestWhichOfBothIsThereBehindACrash(t *testing.T) {
	l := []pager.Change{change(0, "n"), change(1, "m")}
	for at := range 24 {
		for _, keep := range []bool{false, true} {
			d, was, _ := stopped(t, l, at)
			d.Crash([]bool{keep}, -1, 0)
			// At the 22nd call, the last Sync, the mark is written and isn't sure.
			want := at >= 23 || at == 22 && keep
			if got := either(t, fmt.Sprint(at), opened(t, d, 3), was, with(was, l)); got != want {
				t.Errorf("at %d, kept %v: as behind it %v", at, keep, got)
			}
		}
	}
}

// Each call of recovering, each choice of what is kept and torn, and again in the recovering behind it.
func TestCrashAtEachCallOfRecovering(t *testing.T) {
	l := []pager.Change{change(1, "n")}
	marked := func() (*device.Device, []string) {
		d, was, _ := stopped(t, l, 12)
		d.Crash([]bool{true, false}, 1, 20)
		return d, was
	}
	d, _ := marked()
	ahead := d.Calls()
	opened(t, d, 3)
	if d.Calls()-ahead != 7 {
		t.Fatalf("%d calls to recover", d.Calls()-ahead)
	}
	for first := range 7 {
		d, _ := marked()
		d.Stop(first)
		pager.Open(d, 3)
		for _, c := range eachCrash(len(d.Unsure()), 1, 33) {
			for second := range 8 {
				d, was := marked()
				what := fmt.Sprintf("at %d, %v, then at %d", first, c, second)
				d.Stop(first)
				if p, e := pager.Open(d, 3); p != nil || e != api.ErrCrash {
					t.Fatalf("%s: %v and %d", what, p, e)
				}
				c.of(d)
				d.Stop(second)
				pager.Open(d, 3)
				d.Crash([]bool{false, true}, 2, 7)
				if either(t, what, opened(t, d, 3), was, with(was, l)) {
					t.Fatalf("%s: went on, and not back", what)
				}
			}
		}
	}
}

// tries opens a pager over and over, with drawn crashes within the recovering, till it is there.
func (d *draws) tries(t *testing.T, v *device.Device, n, most int) *pager.Pager {
	t.Helper()
	for range most {
		v.Stop(d.below(4 * n))
		p, e := pager.Open(v, n)
		if e == api.OK && d.below(2) == 0 {
			v.Stop(-1)
			return p
		}
		if e != api.OK && e != api.ErrCrash {
			t.Fatalf("Open: %d", e)
		}
		d.crash().of(v)
	}
	v.Stop(-1)
	return opened(t, v, n)
}

// Rows of commits and crashes on one device, with many pages, against what may be.
func TestDrawnRowsOfCommitsAndCrashes(t *testing.T) {
	for seed := range 150 {
		d := draws(seed)
		n := 1 + d.below(40)
		v := device.New(undo.Need(n))
		p, was, well := opened(t, v, n), slices.Repeat([]string{zeros}, n), 0
		for round := range 40 {
			what := fmt.Sprintf("row %d, round %d", seed, round)
			l := d.changes(n, 1+d.below(31), fmt.Sprint("r", round, "."))
			at := d.below(12*len(l) + 12)
			v.Stop(at)
			e := p.Commit(l)
			if (e == api.OK) != (at >= 8*len(l)+7) || e != api.OK && e != api.ErrCrash {
				t.Fatalf("%s: %d changes, standing still at %d: %d", what, len(l), at, e)
			}
			if e == api.OK {
				was, well = with(was, l), well+1
			}
			wantPages(t, what, p, was)
			if p.Commits() != well {
				t.Fatalf("%s: %d commits, not %d", what, p.Commits(), well)
			}
			if e == api.OK && d.below(2) == 0 {
				v.Stop(-1)
				continue
			}
			d.crash().of(v)
			p, well = d.tries(t, v, n, 5), 0
			if e == api.OK {
				wantPages(t, what, p, was)
			} else if either(t, what, p, was, with(was, l)) {
				was = with(was, l)
			}
		}
	}
}

// A device that stood still may go on without a crash: what is written and isn't sure is still there then. A crash that comes later must find no mark of an old journal.
func TestDeviceThatGoesOnWithoutACrash(t *testing.T) {
	d := draws(7)
	l, m := []pager.Change{change(1, "n"), change(0, "m")}, []pager.Change{change(2, "o"), change(1, "p")}
	for at := range 24 {
		for then := range 26 {
			for range 40 {
				v, was, e := stopped(t, l, at)
				v.Stop(-1)
				what := fmt.Sprintf("at %d, going on, then at %d", at, then)
				p := opened(t, v, 3)
				now := was
				if isBehind := either(t, what, p, was, with(was, l)); isBehind || e == api.OK {
					now = with(was, l)
				}
				wantPages(t, what, p, now)
				v.Stop(then)
				e = p.Commit(m)
				d.crash().of(v)
				q := opened(t, v, 3)
				if e == api.OK {
					wantPages(t, what, q, with(now, m))
				} else if at == 22 && then == 0 {
					// The first commit's last Sync was done by nobody: it may be gone yet.
					either(t, what, q, was, now)
				} else {
					either(t, what, q, now, with(now, m))
				}
			}
		}
	}
}
