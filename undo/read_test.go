package undo_test

import (
	"slices"
	"strings"
	"testing"

	"factotum/api"
	"factotum/undo"
)

// draws is a row of numbers that look drawn, the same ones each time.
type draws uint64

func (d *draws) next() uint64 {
	*d = *d*6364136223846793005 + 1442695040888963407
	x := uint64(*d)
	return (x ^ x>>29) * 0xbf58476d1ce4e5b9 >> 16
}

func (d *draws) below(n int) int { return int(d.next() % uint64(n)) }

func (d *draws) bytes(n int) string {
	b := make([]byte, n)
	for i := range b {
		b[i] = byte(d.next())
	}
	return string(b)
}

// pages are unlike numbers of pages, so many, from below most.
func (d *draws) pages(n, most int) []int {
	var l []int
	for len(l) < n {
		if p := d.below(most); !slices.Contains(l, p) {
			l = append(l, p)
		}
	}
	return l
}

// directory is a second reading of what a directory's bytes are: their pages, and whether they are one's.
func directory(s string) ([]int, bool) {
	if len(s) != 64 || s[0] > 31 {
		return nil, false
	}
	end := 1 + 2*int(s[0])
	var l []int
	for i := 1; i < end; i += 2 {
		p := 256*int(s[i]) + int(s[i+1])
		if slices.Contains(l, p) {
			return nil, false
		}
		l = append(l, p)
	}
	return l, strings.Trim(s[end:], "\x00") == ""
}

// wantRead says that bytes aren't read as the second reading has them.
func wantRead(t *testing.T, s string) {
	t.Helper()
	want, is := directory(s)
	wantE := api.OK
	if !is {
		want, wantE = nil, api.ErrCorrupt
	}
	if l, e := undo.Read(s); e != wantE || !slices.Equal(l, want) {
		t.Fatalf("%q: %v and %d, not %v and %d", s, l, e, want, wantE)
	}
}

func TestReadOfToldBytes(t *testing.T) {
	long := "\x1f"
	for i := range 31 {
		long += string([]byte{byte(i), 9})
	}
	for _, x := range []struct {
		s    string
		want []int
	}{
		{zeros, nil}, {filled("\x01"), []int{0}}, {filled("\x01\xff\xff"), []int{65535}}, {filled("\x02\x00\x03\x01\x02"), []int{3, 258}}, {filled("\x02\x01\x02\x00\x03"), []int{258, 3}},
	} {
		if l, e := undo.Read(x.s); e != api.OK || !slices.Equal(l, x.want) {
			t.Errorf("%q: %v and %d", x.s, l, e)
		}
	}
	if l, e := undo.Read(long + "\x00"); e != api.OK || len(l) != 31 || l[0] != 9 || l[30] != 30*256+9 {
		t.Errorf("31 pages: %v and %d", l, e)
	}
	two := filled("\x02\x00\x03\x01\x02")
	for i, s := range []string{
		"", "\x00", "\x01", "\x01\x00", "\x02\x00\x03\x01\x02", two[:63], two + "\x00", two + two, zeros[:63], zeros + "\x00", strings.Repeat("\x00", 128), long, long + "\x00\x00",
		"\x20" + two[1:], "\x20" + long[1:] + "\x00", "\x20" + long[1:] + "\x00\x63", "\x20" + long[1:] + "\x63", "\xff" + two[1:], strings.Repeat("\xff", 64),
		filled("\x02\x00\x03\x00\x03"), filled("\x02"), filled("\x03\x00\x03\x01\x02\x00\x03"), filled("\x03\x01\x02"), long[:61] + "\x00\x09\x00",
		filled("\x00\x01"), filled("\x01\x00\x03\x01"), filled("\x01\x00\x03\x00\x01"), two[:63] + "\x01", zeros[:63] + "\x80", long + "\x01",
	} {
		if l, e := undo.Read(s); e != api.ErrCorrupt || len(l) != 0 {
			t.Errorf("%d: %v and %d of %q", i, l, e, s)
		}
	}
}

func TestReadAnswersNewMemory(t *testing.T) {
	s := filled("\x02\x00\x03\x01\x02")
	l, _ := undo.Read(s)
	l[0], l[1] = 9, 9
	if m, e := undo.Read(s); e != api.OK || !slices.Equal(m, []int{3, 258}) {
		t.Errorf("%v and %d", m, e)
	}
}

func TestWhatIsWrittenIsReadAgain(t *testing.T) {
	d := draws(2)
	for n := range 32 {
		for _, most := range []int{31, 160, 256, 300, 65536} {
			for range 20 {
				l := d.pages(n, most)
				s, e := undo.Write(l)
				if e != api.OK {
					t.Fatalf("%v: %d", l, e)
				}
				if m, e := undo.Read(s); e != api.OK || !slices.Equal(m, l) {
					t.Fatalf("%v was written, %v and %d read", l, m, e)
				}
				wantRead(t, s)
			}
		}
	}
	for p := range 65536 {
		s, _ := undo.Write([]int{p})
		if l, e := undo.Read(s); e != api.OK || !slices.Equal(l, []int{p}) {
			t.Fatalf("%d was written, %v and %d read", p, l, e)
		}
	}
}

// What is read is written again as the very bytes: a directory has no second form.
func TestWhatIsReadIsWrittenAgain(t *testing.T) {
	d := draws(3)
	for range 20000 {
		b := []byte(zeros)
		b[0] = byte(d.below(6))
		for i := 1; i < 1+2*int(b[0]); i++ {
			b[i] = byte(d.below(3))
		}
		wantRead(t, string(b))
		l, e := undo.Read(string(b))
		if e != api.OK {
			continue
		}
		if s, e := undo.Write(l); e != api.OK || s != string(b) {
			t.Fatalf("%q was read, %q and %d written", b, s, e)
		}
	}
}

// Each byte of directories is put to each value, each directory is cut and made longer at each place.
func TestReadOfBytesThatWereChanged(t *testing.T) {
	d := draws(4)
	for n := range 32 {
		s, e := undo.Write(d.pages(n, []int{40, 300, 65536}[n%3]))
		if e != api.OK {
			t.Fatal(e)
		}
		for i := range s {
			for c := range 256 {
				b := []byte(s)
				b[i] = byte(c)
				wantRead(t, string(b))
			}
			wantRead(t, s[:i])
			wantRead(t, s[i:])
			wantRead(t, s+s[:i])
			wantRead(t, s[:i]+"\x00"+s[i:])
		}
	}
}

func TestReadOfDrawnBytes(t *testing.T) {
	d := draws(5)
	for range 20000 {
		n := 64
		if d.below(4) == 0 {
			n = d.below(130)
		}
		b := []byte(d.bytes(n))
		if n > 0 && d.below(2) == 0 {
			b[0] = byte(29 + d.below(4))
			b[n-1] = byte(d.below(2))
		}
		wantRead(t, string(b))
	}
}
