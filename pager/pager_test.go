package pager_test

import (
	"fmt"
	"math"
	"slices"
	"strings"
	"testing"

	"factotum/api"
	"factotum/device"
	"factotum/pager"
	"factotum/undo"
)

// zeros is a page that was never written.
var zeros = strings.Repeat("\x00", 256)

// page is a page whose four sectors are unlike, and unlike those of another name's.
func page(name string) string {
	s := ""
	for j := range 4 {
		s += (fmt.Sprint(name, " ", j, " ") + strings.Repeat(name, 64))[:64]
	}
	return s
}

// change is a change of a page to the name's.
func change(n int, name string) pager.Change { return pager.Change{Page: n, Data: page(name)} }

// wantErr says that a call didn't answer what it should.
func wantErr(t *testing.T, what string, got, want api.Errno) {
	t.Helper()
	if got != want {
		t.Errorf("%s: %d, not %d", what, got, want)
	}
}

// opened is a pager on a device, that must be there.
func opened(t *testing.T, d *device.Device, pages int) *pager.Pager {
	t.Helper()
	p, e := pager.Open(d, pages)
	if p == nil || e != api.OK {
		t.Fatalf("Open of %d pages: %d", pages, e)
	}
	return p
}

// commit commits changes, which must end well.
func commit(t *testing.T, p *pager.Pager, l ...pager.Change) {
	t.Helper()
	if e := p.Commit(l); e != api.OK {
		t.Fatalf("Commit of %d changes: %d", len(l), e)
	}
}

// pages is all that a pager reads.
func pages(t *testing.T, p *pager.Pager) []string {
	t.Helper()
	var l []string
	for n := range p.Size() {
		s, e := p.Read(n)
		if e != api.OK || len(s) != 256 {
			t.Fatalf("page %d: %d bytes and %d", n, len(s), e)
		}
		l = append(l, s)
	}
	return l
}

// sectors is all that a device reads.
func sectors(d *device.Device) []string {
	var l []string
	for i := range d.Size() {
		l = append(l, d.Read(i))
	}
	return l
}

// wantPages says that a pager's pages aren't these.
func wantPages(t *testing.T, what string, p *pager.Pager, want []string) {
	t.Helper()
	if got := pages(t, p); !slices.Equal(got, want) {
		t.Errorf("%s: pages aren't as they should be: %s, not %s", what, heads(got), heads(want))
	}
}

// heads is a page's first bytes, of each, which tell the pages of these tests apart.
func heads(l []string) string {
	s := ""
	for _, x := range l {
		s += fmt.Sprintf("%q ", x[:4])
	}
	return s
}

// untouched is a device's sectors and its number of calls now; what it answers says later whether they still are so.
func untouched(d *device.Device) func(t *testing.T, what string) {
	was, calls, unsure := sectors(d), d.Calls(), d.Unsure()
	return func(t *testing.T, what string) {
		t.Helper()
		if d.Calls() != calls || !slices.Equal(sectors(d), was) || !slices.Equal(d.Unsure(), unsure) {
			t.Errorf("%s: the device was changed, by %d calls", what, d.Calls()-calls)
		}
	}
}

func TestOpenOfEachNumberOfPages(t *testing.T) {
	d := device.New(4096)
	for _, n := range []int{math.MinInt, math.MinInt + 1, -1 << 40, -160, -1, 0, 161, 162, 800, 1 << 20, 1 << 62, math.MaxInt - 31, math.MaxInt} {
		p, e := pager.Open(d, n)
		if p != nil || e != api.ErrArg {
			t.Errorf("Open of %d pages: %v and %d", n, p, e)
		}
	}
	for _, n := range []int{1, 2, 3, 31, 32, 159, 160} {
		p := opened(t, d, n)
		if p.Size() != n || p.Commits() != 0 {
			t.Errorf("%d pages and %d commits, not %d and 0", p.Size(), p.Commits(), n)
		}
	}
	if d.Calls() != 0 {
		t.Errorf("%d calls of the device to open, with nothing to recover", d.Calls())
	}
}

func TestOpenOfEachDevice(t *testing.T) {
	for _, n := range []int{math.MinInt, -1, 0, 1, 160, 161, math.MaxInt} {
		if p, e := pager.Open(nil, n); p != nil || e != api.ErrArg {
			t.Errorf("Open of no device and %d pages: %v and %d", n, p, e)
		}
	}
	for n := 1; n <= 160; n++ {
		for _, size := range []int{0, 1, 126, 126 + 4*n - 4, 126 + 4*n - 1} {
			if p, e := pager.Open(device.New(size), n); p != nil || e != api.ErrArg {
				t.Errorf("Open of %d pages on %d sectors: %v and %d", n, size, p, e)
			}
		}
		for _, size := range []int{126 + 4*n, 126 + 4*n + 1, 4096} {
			p := opened(t, device.New(size), n)
			if p.Size() != n {
				t.Errorf("%d pages on %d sectors: %d", n, size, p.Size())
			}
		}
	}
}

// The last page lies in the last sectors of a device that has no more than its pages need.
func TestDeviceThatHasJustWhatItsPagesNeed(t *testing.T) {
	for _, n := range []int{1, 2, 160} {
		d := device.New(126 + 4*n)
		p := opened(t, d, n)
		commit(t, p, change(n-1, "last"))
		if s := d.Read(126+4*n-1) + d.Read(126+4*n-4); s != page("last")[192:]+page("last")[:64] {
			t.Errorf("%d pages: %q", n, s)
		}
		want := slices.Repeat([]string{zeros}, n)
		want[n-1] = page("last")
		wantPages(t, "at first", p, want)
		wantPages(t, "again", opened(t, d, n), want)
	}
}

// journaled is a device with a sure mark and directory, and images and pages of told names.
func journaled(t *testing.T, size int, mark, directory string) *device.Device {
	t.Helper()
	d := device.New(size)
	wantErr(t, "Write", d.Write(0, mark), api.OK)
	wantErr(t, "Write", d.Write(1, directory), api.OK)
	for i := 2; i < d.Size(); i++ {
		wantErr(t, "Write", d.Write(i, fmt.Sprint("sector ", i)), api.OK)
	}
	wantErr(t, "Sync", d.Sync(), api.OK)
	return d
}

func TestOpenOfCorruptDirectories(t *testing.T) {
	for _, directory := range []string{
		"\x20", "\xff", "\x00\x01", "\x01\x00\x01\x01", "\x02\x00\x01\x00\x01", "\x02", strings.Repeat("\xff", 64), strings.Repeat("\x00", 63) + "\x01",
		"\x01\x00\x04", "\x01\x00\x05", "\x01\x01\x00", "\x01\x01\x01", "\x01\xff\xff", "\x02\x00\x00\x00\x04", "\x02\x00\x04\x00\x00", "\x03\x00\x01\x00\x02\x00\xa0",
	} {
		for _, mark := range []string{"\x01", "\x02", "\x80", "\xff", strings.Repeat("\xff", 64), "\x01\x00\x07"} {
			for _, stop := range []int{-1, 0, 1} {
				// The device has sectors behind its four pages: a page is there by how many there are, not by the sectors.
				d := journaled(t, 4096, mark, directory)
				d.Stop(stop)
				same := untouched(d)
				p, e := pager.Open(d, 4)
				if p != nil || e != api.ErrCorrupt {
					t.Errorf("mark %q, directory %q: %v and %d", mark, directory, p, e)
				}
				same(t, "Open with ErrCorrupt")
				if p, e := pager.Open(d, 0); p != nil || e != api.ErrArg {
					t.Errorf("no pages, mark %q, directory %q: %v and %d", mark, directory, p, e)
				}
			}
		}
	}
	d := journaled(t, 126+4*4-1, "\x01", "\xff")
	if p, e := pager.Open(d, 4); p != nil || e != api.ErrArg {
		t.Errorf("a sector too few and a corrupt directory: %v and %d", p, e)
	}
}

// Where the mark says no, nobody asks for the directory, nor whether the device stands still.
func TestOpenOfMarksThatSayNo(t *testing.T) {
	for _, mark := range []string{"", "\x00", "\x00\x01", "\x00" + strings.Repeat("\xff", 63)} {
		for _, directory := range []string{"", "\xff", "\x01\xff\xff", "\x01\x00\x02"} {
			for _, stop := range []int{-1, 0} {
				d := journaled(t, undo.Need(4), mark, directory)
				d.Stop(stop)
				same := untouched(d)
				p := opened(t, d, 4)
				if s, e := p.Read(2); e != api.OK || !strings.HasPrefix(s, "sector 134\x00") || !strings.HasPrefix(s[192:], "sector 137\x00") {
					t.Errorf("%q and %d", s, e)
				}
				same(t, "Open with a mark that says no")
			}
		}
	}
}

func TestReadOfEachPage(t *testing.T) {
	for _, n := range []int{1, 2, 7, 160} {
		p := opened(t, device.New(4096), n)
		for i := range n {
			if s, e := p.Read(i); s != zeros || e != api.OK {
				t.Errorf("page %d of %d, never written: %q and %d", i, n, s, e)
			}
		}
		for _, i := range []int{math.MinInt, -1 << 62, -160, -32, -31, -1, n, n + 1, 160, 161, 1 << 62, math.MaxInt} {
			if s, e := p.Read(i); s != "" || e != api.ErrIndex {
				t.Errorf("page %d of %d: %q and %d", i, n, s, e)
			}
		}
	}
}

func TestPagesDontTouchEachOther(t *testing.T) {
	d := device.New(undo.Need(160))
	p := opened(t, d, 160)
	var want []string
	for n := range 160 {
		commit(t, p, change(n, fmt.Sprint("p", n)))
		want = append(want, page(fmt.Sprint("p", n)))
	}
	wantPages(t, "all", p, want)
	wantPages(t, "opened again", opened(t, d, 160), want)
	if p.Commits() != 160 || p.Size() != 160 {
		t.Errorf("%d commits and %d pages", p.Commits(), p.Size())
	}
}

func TestCommitOfNoChange(t *testing.T) {
	d := device.New(undo.Need(3))
	p := opened(t, d, 3)
	for _, stop := range []int{-1, 0} {
		d.Stop(stop)
		wantErr(t, "Commit of nil", p.Commit(nil), api.OK)
		wantErr(t, "Commit of none", p.Commit([]pager.Change{}), api.OK)
	}
	if p.Commits() != 0 || d.Calls() != 0 {
		t.Errorf("%d commits and %d calls", p.Commits(), d.Calls())
	}
	d.Stop(-1)
	commit(t, p, change(1, "a"))
	commit(t, p)
	if p.Commits() != 1 {
		t.Errorf("%d commits", p.Commits())
	}
}

// many is changes of so many pages, the first one last.
func many(n int, name string) []pager.Change {
	var l []pager.Change
	for i := range n {
		l = append(l, change(n-1-i, fmt.Sprint(name, i)))
	}
	return l
}

func TestCommitOfEachNumberOfChanges(t *testing.T) {
	for n := 1; n <= 31; n++ {
		d := device.New(undo.Need(40))
		p := opened(t, d, 40)
		l := many(n, "x")
		commit(t, p, l...)
		want := slices.Repeat([]string{zeros}, 40)
		for _, c := range l {
			want[c.Page] = c.Data
		}
		wantPages(t, fmt.Sprint(n), p, want)
		wantPages(t, fmt.Sprint(n, " again"), opened(t, d, 40), want)
		if d.Calls() != 8*n+7 || len(d.Unsure()) != 0 || p.Commits() != 1 {
			t.Errorf("%d changes: %d calls, unsure %v, %d commits", n, d.Calls(), d.Unsure(), p.Commits())
		}
	}
	p := opened(t, device.New(undo.Need(40)), 40)
	for _, n := range []int{32, 33, 40, 160, 1 << 16} {
		wantErr(t, fmt.Sprint(n), p.Commit(many(n, "x")), api.ErrLong)
	}
	wantPages(t, "too many changes", p, slices.Repeat([]string{zeros}, 40))
}

func TestChangesThatAreRefused(t *testing.T) {
	short, long, none := page("s")[:255], page("l")+"l", ""
	with := func(n int, data string) pager.Change { return pager.Change{Page: n, Data: data} }
	good, bad := many(31, "g"), many(31, "g")
	bad[30].Page = 40
	same := many(31, "g")
	same[30].Page = same[0].Page
	for i, x := range []struct {
		l    []pager.Change
		want api.Errno
	}{
		{[]pager.Change{change(-1, "a")}, api.ErrIndex}, {[]pager.Change{change(40, "a")}, api.ErrIndex}, {[]pager.Change{change(41, "a")}, api.ErrIndex},
		{[]pager.Change{change(160, "a")}, api.ErrIndex}, {[]pager.Change{change(math.MaxInt, "a")}, api.ErrIndex}, {[]pager.Change{change(math.MinInt, "a")}, api.ErrIndex},
		{[]pager.Change{change(0, "a"), change(40, "a")}, api.ErrIndex}, {[]pager.Change{change(40, "a"), change(0, "a")}, api.ErrIndex}, {bad, api.ErrIndex},
		{[]pager.Change{with(1, short)}, api.ErrArg}, {[]pager.Change{with(1, long)}, api.ErrArg}, {[]pager.Change{with(1, none)}, api.ErrArg}, {[]pager.Change{with(1, long+long)}, api.ErrArg},
		{[]pager.Change{with(1, page("a")[:64])}, api.ErrArg}, {[]pager.Change{change(2, "a"), with(1, short)}, api.ErrArg}, {[]pager.Change{with(1, long), change(2, "a")}, api.ErrArg},
		{[]pager.Change{change(3, "a"), change(3, "b")}, api.ErrArg}, {[]pager.Change{change(3, "a"), change(3, "a")}, api.ErrArg}, {[]pager.Change{change(0, "a"), change(1, "a"), change(0, "b")}, api.ErrArg}, {same, api.ErrArg},
		// Two errors, or three: the first that is named, wherever it is among the changes.
		{[]pager.Change{change(3, "a"), change(3, "a"), change(40, "a")}, api.ErrIndex}, {[]pager.Change{with(3, short), change(-1, "a")}, api.ErrIndex}, {[]pager.Change{with(40, short)}, api.ErrIndex},
		{[]pager.Change{change(40, "a"), change(40, "a")}, api.ErrIndex}, {[]pager.Change{with(-1, long), with(-1, long)}, api.ErrIndex}, {[]pager.Change{with(3, short), with(3, short)}, api.ErrArg},
		{append(slices.Clone(good), change(31, "a")), api.ErrLong}, {append(slices.Clone(good), change(0, "a")), api.ErrLong}, {append(slices.Clone(good), change(40, "a")), api.ErrLong}, {make([]pager.Change, 32), api.ErrLong},
		{make([]pager.Change, 31), api.ErrArg}, {make([]pager.Change, 1), api.ErrArg}, {append(slices.Clone(good), with(-1, short)), api.ErrLong},
	} {
		for _, stop := range []int{-1, 0} {
			d := device.New(undo.Need(60))
			p := opened(t, d, 40)
			commit(t, p, change(0, "w"), change(39, "v"))
			was := pages(t, p)
			d.Stop(stop)
			unlike, given := untouched(d), slices.Clone(x.l)
			wantErr(t, fmt.Sprint("changes ", i), p.Commit(x.l), x.want)
			unlike(t, fmt.Sprint("changes ", i))
			wantPages(t, fmt.Sprint("changes ", i), p, was)
			if p.Commits() != 1 || p.Size() != 40 || !slices.Equal(x.l, given) {
				t.Errorf("changes %d: %d commits, %d pages, handed in %v", i, p.Commits(), p.Size(), len(x.l))
			}
			d.Stop(-1)
			wantErr(t, "Commit behind a refused one", p.Commit(good), api.OK)
		}
	}
}

func TestCommitsOneBehindTheOther(t *testing.T) {
	d := device.New(undo.Need(4))
	p := opened(t, d, 4)
	commit(t, p, change(0, "a"), change(2, "b"))
	commit(t, p, change(2, "c"), change(3, "d"))
	commit(t, p, change(3, "d"))
	want := []string{page("a"), zeros, page("c"), page("d")}
	wantPages(t, "three commits", p, want)
	if p.Commits() != 3 || p.Size() != 4 || d.Calls() != 23+23+15 {
		t.Errorf("%d commits, %d pages, %d calls", p.Commits(), p.Size(), d.Calls())
	}
	q := opened(t, d, 4)
	wantPages(t, "opened again", q, want)
	if q.Commits() != 0 || d.Calls() != 61 {
		t.Errorf("opened again: %d commits, %d calls", q.Commits(), d.Calls())
	}
	// Fewer pages on the same device, and more.
	wantPages(t, "two pages", opened(t, d, 2), want[:2])
	if _, e := pager.Open(d, 5); e != api.ErrArg {
		t.Errorf("five pages: %d", e)
	}
}

func TestBytesOfAllKinds(t *testing.T) {
	b := make([]byte, 256)
	for i := range b {
		b[i] = byte(255 - i)
	}
	d := device.New(undo.Need(2))
	p := opened(t, d, 2)
	for _, s := range []string{string(b), zeros, strings.Repeat("\xff", 256), string(b[1:]) + "\x00"} {
		commit(t, p, pager.Change{Page: 1, Data: s})
		wantPages(t, "bytes", p, []string{zeros, s})
	}
}

func TestPagerThatIsntThere(t *testing.T) {
	var p *pager.Pager
	for _, n := range []int{math.MinInt, -1, 0, 1, 160, math.MaxInt} {
		if s, e := p.Read(n); s != "" || e != api.ErrArg {
			t.Errorf("Read of %d: %q and %d", n, s, e)
		}
	}
	for _, l := range [][]pager.Change{nil, {}, {change(0, "a")}, {change(-1, "a")}, {{Page: 0, Data: "a"}}, make([]pager.Change, 32)} {
		wantErr(t, "Commit", p.Commit(l), api.ErrArg)
	}
	if p.Size() != 0 || p.Commits() != 0 {
		t.Errorf("%d pages and %d commits", p.Size(), p.Commits())
	}
}

// A pager that nobody opened has no pages.
func TestPagerThatWasntOpened(t *testing.T) {
	p := new(pager.Pager)
	if s, e := p.Read(0); s != "" || e != api.ErrIndex {
		t.Errorf("Read: %q and %d", s, e)
	}
	wantErr(t, "Commit of none", p.Commit(nil), api.OK)
	wantErr(t, "Commit", p.Commit([]pager.Change{change(0, "a")}), api.ErrIndex)
	wantErr(t, "Commit of 32", p.Commit(make([]pager.Change, 32)), api.ErrLong)
	if p.Size() != 0 || p.Commits() != 0 {
		t.Errorf("%d pages and %d commits", p.Size(), p.Commits())
	}
}
