package pager_test

import (
	"fmt"
	"slices"
	"testing"

	"factotum/api"
	"factotum/device"
	"factotum/pager"
	"factotum/undo"
)

// call is a call of the device, as the chapter tells it: a Sync, or a Write of a sector.
type call struct {
	sync   bool
	sector int
	data   string
}

// sync is a Sync.
var sync = call{sync: true}

// say is the Write of a mark whose first byte is this one.
func say(b byte) call { return call{sector: 0, data: string(b) + zeros[1:64]} }

// four is the Writes of a page from a sector on.
func four(from int, page string) []call {
	var l []call
	for j := range 4 {
		l = append(l, call{sector: from + j, data: page[64*j : 64*j+64]})
	}
	return l
}

// calls is the calls that a commit does on pages that are so, by hand.
func calls(was []string, l []pager.Change) []call {
	names := string(byte(len(l)))
	for _, c := range l {
		names += string([]byte{byte(c.Page >> 8), byte(c.Page)})
	}
	done := []call{{sector: 1, data: names + zeros[len(names):64]}}
	for k, c := range l {
		done = append(done, four(2+4*k, was[c.Page])...)
	}
	done = append(done, sync, say(1), sync)
	for _, c := range l {
		done = append(done, four(126+4*c.Page, c.Data)...)
	}
	return append(done, sync, say(0), sync)
}

// backs is the calls that recovering does, where the images of these pages are so, by hand.
func backs(l []pager.Change) []call {
	var done []call
	for _, c := range l {
		done = append(done, four(126+4*c.Page, c.Data)...)
	}
	return append(done, sync, say(0), sync)
}

// wantDone says that a device of such sure sectors hasn't done just these calls, by what it reads, what isn't sure, and what is left behind a crash.
func wantDone(t *testing.T, what string, d *device.Device, sure []string, done []call, keep bool) {
	t.Helper()
	sure, written, unsure := slices.Clone(sure), slices.Clone(sure), []int{}
	for _, c := range done {
		if c.sync {
			sure, unsure = slices.Clone(written), []int{}
			continue
		}
		written[c.sector] = c.data
		unsure = append(unsure, c.sector)
	}
	slices.Sort(unsure)
	if !slices.Equal(d.Unsure(), unsure) || !slices.Equal(sectors(d), written) {
		t.Fatalf("%s: unsure are %v, not %v", what, d.Unsure(), unsure)
	}
	d.Crash([]bool{keep}, -1, 0)
	if keep {
		sure = written
	}
	if !slices.Equal(sectors(d), sure) {
		t.Fatalf("%s: behind a crash the device isn't as it should be", what)
	}
}

func TestOrderOfTheCallsOfACommit(t *testing.T) {
	for i, l := range [][]pager.Change{
		{change(0, "n")}, {change(39, "n")}, {change(1, "n"), change(0, "m")}, {change(0, "n"), change(1, "m")}, {change(38, "n"), change(5, "m"), change(17, "o")}, {{Page: 3, Data: zeros}}, {change(5, "w5")}, many(31, "n"),
	} {
		start := func() (*device.Device, *pager.Pager) {
			d := device.New(undo.Need(40))
			p := opened(t, d, 40)
			for n := range 40 {
				if n%5 != 3 {
					commit(t, p, change(n, fmt.Sprint("w", n)))
				}
			}
			return d, p
		}
		d, p := start()
		sure, all := sectors(d), calls(pages(t, p), l)
		if len(all) != 8*len(l)+7 {
			t.Fatalf("%d calls", len(all))
		}
		for at := range len(all) + 2 {
			for _, keep := range []bool{false, true} {
				d, p := start()
				ahead := d.Calls()
				d.Stop(at)
				want, done := api.ErrCrash, at+1
				if at >= len(all) {
					want, done = api.OK, len(all)
				}
				what := fmt.Sprintf("changes %d, standing still at %d", i, at)
				wantErr(t, what, p.Commit(l), want)
				if d.Calls()-ahead != done {
					t.Errorf("%s: %d calls, not %d", what, d.Calls()-ahead, done)
				}
				wantDone(t, what, d, sure, all[:min(at, len(all))], keep)
			}
		}
	}
}

// markedBy is a device on which a commit of such changes stood still behind its mark was made sure, and the images that are in its journal.
func markedBy(t *testing.T, l []pager.Change) (*device.Device, []pager.Change) {
	t.Helper()
	d := device.New(undo.Need(40))
	p := opened(t, d, 40)
	commit(t, p, change(0, "w"), change(5, "v"), change(17, "u"))
	var images []pager.Change
	for _, c := range l {
		s, _ := p.Read(c.Page)
		images = append(images, pager.Change{Page: c.Page, Data: s})
	}
	d.Stop(4 + 6*len(l)) // the directory, the images, a Sync, the mark, a Sync; half of the pages
	wantErr(t, "Commit", p.Commit(l), api.ErrCrash)
	d.Crash([]bool{true}, -1, 0)
	return d, images
}

func TestOrderOfTheCallsOfRecovering(t *testing.T) {
	for i, l := range [][]pager.Change{{change(0, "n")}, {change(5, "n"), change(0, "m")}, {change(17, "n"), change(39, "m"), change(5, "o")}, many(31, "n")} {
		for at := range 4*len(l) + 5 {
			for _, keep := range []bool{false, true} {
				d, images := markedBy(t, l)
				sure, all, ahead := sectors(d), backs(images), d.Calls()
				if at == 0 && sure[126+4*l[0].Page] != l[0].Data[:64] {
					t.Fatal("nothing of the commit is there to go back from")
				}
				d.Stop(at)
				p, e := pager.Open(d, 40)
				want, done := api.ErrCrash, at+1
				if at >= len(all) {
					want, done = api.OK, len(all)
				}
				what := fmt.Sprintf("changes %d, standing still at %d", i, at)
				wantErr(t, what, e, want)
				if (p == nil) != (e != api.OK) || d.Calls()-ahead != done {
					t.Errorf("%s: a pager: %v, %d calls, not %d", what, p != nil, d.Calls()-ahead, done)
				}
				wantDone(t, what, d, sure, all[:min(at, len(all))], keep)
			}
		}
	}
}

// A journal may be anyone's: what counts is what stands in it.
func TestRecoveringOfAJournalByHand(t *testing.T) {
	for _, mark := range []string{"\x01", "\x02", "\x80\x01", "\xff"} {
		d := journaled(t, undo.Need(8), mark, "\x03\x00\x06\x00\x00\x00\x07")
		was, ahead := sectors(d), d.Calls()
		wantPages(t, "by hand", opened(t, d, 8), []string{
			was[6] + was[7] + was[8] + was[9], was[130] + was[131] + was[132] + was[133], was[134] + was[135] + was[136] + was[137], was[138] + was[139] + was[140] + was[141],
			was[142] + was[143] + was[144] + was[145], was[146] + was[147] + was[148] + was[149], was[2] + was[3] + was[4] + was[5], was[10] + was[11] + was[12] + was[13],
		})
		if d.Calls()-ahead != 15 || len(d.Unsure()) != 0 || d.Read(0) != zeros[:64] || d.Read(1) != was[1] {
			t.Errorf("%d calls, unsure %v, mark %q", d.Calls()-ahead, d.Unsure(), d.Read(0))
		}
		opened(t, d, 8)
		if d.Calls()-ahead != 15 {
			t.Errorf("opened again: %d calls", d.Calls()-ahead)
		}
	}
	// A directory of no page is one.
	d := journaled(t, undo.Need(8), "\x01", "")
	was, ahead := sectors(d), d.Calls()
	was[0] = zeros[:64]
	opened(t, d, 8)
	if d.Calls()-ahead != 3 || !slices.Equal(sectors(d), was) {
		t.Errorf("no page: %d calls", d.Calls()-ahead)
	}
	// One of 31 pages, the last of which is the last there is.
	names := "\x1f"
	for n := range 31 {
		names += string([]byte{0, byte(n)})
	}
	d = journaled(t, undo.Need(31), "\x01", names)
	was = sectors(d)
	p := opened(t, d, 31)
	for n := range 31 {
		if s, e := p.Read(n); e != api.OK || s != was[2+4*n]+was[3+4*n]+was[4+4*n]+was[5+4*n] {
			t.Errorf("page %d: %q and %d", n, s, e)
		}
	}
	if _, e := pager.Open(journaled(t, undo.Need(31), "\x01", names), 30); e != api.ErrCorrupt {
		t.Errorf("31 pages in a journal, 30 there: %d", e)
	}
}

// Behind a commit that ended with ErrCrash a pager tells what was ahead of it, and does nothing more, whatever comes of the device.
func TestPagerBehindErrCrash(t *testing.T) {
	for _, l := range [][]pager.Change{{change(2, "c")}, {change(2, "c"), change(3, "d")}, many(4, "e")} {
		for at := range 8*len(l) + 7 {
			for _, then := range []func(d *device.Device){
				func(d *device.Device) {}, func(d *device.Device) { d.Stop(-1) }, func(d *device.Device) { d.Crash(nil, -1, 0) }, func(d *device.Device) { d.Crash([]bool{true}, 0, 30) }, func(d *device.Device) { d.Crash([]bool{true, false}, 2, 5) },
				func(d *device.Device) { d.Crash([]bool{true}, -1, 0); pager.Open(d, 4) },
			} {
				wantOver(t, l, at, then)
			}
		}
	}
}

// wantOver says that a pager goes on, or tells something else, where a commit ended with ErrCrash at a call, and then something is done to the device.
func wantOver(t *testing.T, l []pager.Change, at int, then func(d *device.Device)) {
	t.Helper()
	d := device.New(undo.Need(4))
	p := opened(t, d, 4)
	commit(t, p, change(0, "a"), change(2, "b"))
	was := pages(t, p)
	d.Stop(at)
	handed := slices.Clone(l)
	wantErr(t, fmt.Sprint("Commit at ", at), p.Commit(handed), api.ErrCrash)
	for k := range handed {
		handed[k] = change(k, "x")
	}
	wantPages(t, fmt.Sprint("behind ErrCrash at ", at), p, was)
	then(d)
	same := untouched(d)
	for _, l := range [][]pager.Change{nil, {}, l, {change(0, "z")}, {change(4, "z")}, {change(1, "z"), change(1, "z")}, {{Page: 1, Data: "z"}}, make([]pager.Change, 32)} {
		wantErr(t, fmt.Sprint("Commit behind one at ", at), p.Commit(l), api.ErrState)
	}
	wantPages(t, fmt.Sprint("again, behind ErrCrash at ", at), p, was)
	if s, e := p.Read(4); s != "" || e != api.ErrIndex {
		t.Errorf("Read of 4: %q and %d", s, e)
	}
	if p.Commits() != 1 || p.Size() != 4 {
		t.Errorf("%d commits and %d pages", p.Commits(), p.Size())
	}
	same(t, "a pager behind ErrCrash")
}
