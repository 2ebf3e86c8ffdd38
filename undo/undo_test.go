package undo_test

import (
	"fmt"
	"math"
	"math/big"
	"slices"
	"strings"
	"testing"

	"factotum/api"
	"factotum/undo"
)

// zeros is a sector of noughts.
var zeros = strings.Repeat("\x00", 64)

// filled is s, and 0s behind it up to a sector's size.
func filled(s string) string { return s + zeros[len(s):] }

// full is n bytes that aren't all alike.
func full(n int) string {
	b := make([]byte, n)
	for i := range b {
		b[i] = byte(i*7 + i/64)
	}
	return string(b)
}

// from is n numbers, one behind the other, from first on.
func from(first, n int) []int {
	l := make([]int, n)
	for i := range l {
		l[i] = first + i
	}
	return l
}

// numbers are ordinary ones, those at the edges, and those whose fourfold wraps.
var numbers = []int{
	math.MinInt, math.MinInt + 1, math.MinInt / 2, math.MinInt/4 - 1, math.MinInt / 4, -1 << 32, -65536, -126, -32, -31, -4, -2, -1,
	0, 1, 2, 3, 4, 30, 31, 32, 63, 64, 159, 160, 161, 65535, 65536, 1 << 31, 1 << 32, 1<<61 - 32, 1<<61 - 1, 1 << 61, 1 << 62, math.MaxInt - 126, math.MaxInt - 1, math.MaxInt,
}

// wrapped is first + 4 n + j, modulo 2^64, told without a wrap on the way.
func wrapped(first, n, j int) int {
	x := big.NewInt(int64(n))
	x.Mul(x, big.NewInt(4))
	x.Add(x, big.NewInt(int64(j)))
	x.Add(x, big.NewInt(int64(first)))
	x.Mod(x, new(big.Int).Lsh(big.NewInt(1), 64))
	return int(x.Uint64())
}

func TestPlacesOfToldNumbers(t *testing.T) {
	for i, x := range []struct{ got, want int }{
		{undo.Image(0, 0), 2}, {undo.Image(0, 1), 3}, {undo.Image(0, 3), 5}, {undo.Image(1, 0), 6}, {undo.Image(30, 3), 125}, {undo.Image(31, 0), 126},
		{undo.Image(-1, 0), -2}, {undo.Image(0, -1), 1}, {undo.Image(-1, -1), -3}, {undo.Image(0, 9), 11},
		{undo.Image(math.MaxInt, 0), -2}, {undo.Image(math.MinInt, 0), 2}, {undo.Image(0, math.MaxInt), math.MinInt + 1}, {undo.Image(0, math.MinInt), math.MinInt + 2}, {undo.Image(1<<61, 0), math.MinInt + 2},
		{undo.Place(0, 0), 126}, {undo.Place(0, 3), 129}, {undo.Place(1, 0), 130}, {undo.Place(2, 1), 135}, {undo.Place(159, 3), 765}, {undo.Place(65535, 3), 262269},
		{undo.Place(-1, 0), 122}, {undo.Place(0, -1), 125}, {undo.Place(-32, 0), -2}, {undo.Place(0, 300), 426},
		{undo.Place(math.MaxInt, 3), 125}, {undo.Place(math.MinInt, 0), 126}, {undo.Place(0, math.MaxInt), math.MinInt + 125}, {undo.Place(1<<61, 1), math.MinInt + 127},
		{undo.Need(0), 126}, {undo.Need(1), 130}, {undo.Need(10), 166}, {undo.Need(160), 766}, {undo.Need(65536), 262270},
		{undo.Need(-1), 122}, {undo.Need(-32), -2}, {undo.Need(math.MaxInt), 122}, {undo.Need(math.MinInt), 126}, {undo.Need(1 << 61), math.MinInt + 126},
	} {
		if x.got != x.want {
			t.Errorf("%d: %d, not %d", i, x.got, x.want)
		}
	}
}

func TestPlacesOfAnyNumbers(t *testing.T) {
	for _, n := range numbers {
		if got, want := undo.Need(n), wrapped(126, n, 0); got != want {
			t.Errorf("Need of %d: %d, not %d", n, got, want)
		}
		for _, j := range numbers {
			if got, want := undo.Image(n, j), wrapped(2, n, j); got != want {
				t.Errorf("Image of %d and %d: %d, not %d", n, j, got, want)
			}
			if got, want := undo.Place(n, j), wrapped(126, n, j); got != want {
				t.Errorf("Place of %d and %d: %d, not %d", n, j, got, want)
			}
		}
	}
}

// Of each number of pages, the sectors of all things are those of the device, each once.
func TestNoTwoSectorsAreOne(t *testing.T) {
	const mark, directory = 0, 1
	for pages := range api.Pages + 1 {
		l := []int{mark, directory}
		for k := range api.Changes {
			for j := range 4 {
				l = append(l, undo.Image(k, j))
			}
		}
		for p := range pages {
			for j := range 4 {
				l = append(l, undo.Place(p, j))
			}
		}
		if !slices.Equal(l, from(0, undo.Need(pages))) {
			t.Fatalf("%d pages: %v", pages, l)
		}
	}
	seen := map[int]int{}
	for p := range 65536 {
		for j := range 4 {
			seen[undo.Place(p, j)]++
		}
	}
	if len(seen) != 4*65536 {
		t.Errorf("%d sectors of 65536 pages", len(seen))
	}
}

func TestCut(t *testing.T) {
	for _, n := range []int{0, 1, 63, 64, 65, 128, 192, 255, 257, 320, 512, 1 << 16} {
		if l, e := undo.Cut(full(n)); e != api.ErrArg || len(l) != 0 {
			t.Errorf("%d bytes: %q and %d", n, l, e)
		}
	}
	s := full(256)
	l, e := undo.Cut(s)
	if want := []string{s[:64], s[64:128], s[128:192], s[192:]}; e != api.OK || !slices.Equal(l, want) {
		t.Errorf("%q and %d", l, e)
	}
	l[0], l[3] = "", "other"
	if m, e := undo.Cut(s); e != api.OK || m[0] != s[:64] || m[3] != s[192:] || s != full(256) {
		t.Errorf("a list that was answered is not new: %q and %d", m, e)
	}
}

func TestJoin(t *testing.T) {
	s := full(256)
	all := []string{s[:64], s[64:128], s[128:192], s[192:]}
	for i, l := range [][]string{
		nil, {}, {s}, all[:1], all[:2], all[:3], append(slices.Clone(all), s[:64]), append(slices.Clone(all), ""), append(slices.Clone(all), all...),
		{"", "", "", ""}, {s, "", "", ""}, {"", s[:64], s[:128], s[:64]}, {s[:63], s[63:128], s[128:192], s[192:]}, {s[:65], s[65:128], s[128:192], s[192:]}, {s[:64], s[64:128], s[128:193], s[193:]},
	} {
		if p, e := undo.Join(l); e != api.ErrArg || p != "" {
			t.Errorf("%d: %q and %d", i, p, e)
		}
	}
	for i := range all {
		for _, n := range []int{0, 1, 63, 65, 128, 256} {
			l := slices.Clone(all)
			l[i] = full(n)
			if p, e := undo.Join(l); e != api.ErrArg || p != "" {
				t.Errorf("sector %d of %d bytes: %q and %d", i, n, p, e)
			}
		}
	}
	given := slices.Clone(all)
	if p, e := undo.Join(given); e != api.OK || p != s || !slices.Equal(given, all) {
		t.Errorf("%q and %d, of %q", p, e, given)
	}
}

func TestWhatIsCutIsJoinedAgain(t *testing.T) {
	d := draws(1)
	for range 500 {
		s := d.bytes(256)
		l, e := undo.Cut(s)
		if e != api.OK {
			t.Fatalf("Cut: %d", e)
		}
		if p, e := undo.Join(l); e != api.OK || p != s {
			t.Fatalf("%q was cut, %q and %d joined", s, p, e)
		}
		var m []string
		for range 4 {
			m = append(m, d.bytes(64))
		}
		p, e := undo.Join(m)
		if e != api.OK {
			t.Fatalf("Join: %d", e)
		}
		if l, e := undo.Cut(p); e != api.OK || !slices.Equal(l, m) {
			t.Fatalf("%q was joined, %q and %d cut", m, l, e)
		}
	}
}

func TestWriteOfToldPages(t *testing.T) {
	for _, x := range []struct {
		pages []int
		want  string
	}{
		{nil, ""}, {[]int{}, ""}, {[]int{0}, "\x01"}, {[]int{7}, "\x01\x00\x07"}, {[]int{255}, "\x01\x00\xff"}, {[]int{256}, "\x01\x01\x00"}, {[]int{65535}, "\x01\xff\xff"},
		{[]int{3, 258}, "\x02\x00\x03\x01\x02"}, {[]int{258, 3}, "\x02\x01\x02\x00\x03"}, {[]int{65535, 0, 1}, "\x03\xff\xff\x00\x00\x00\x01"},
	} {
		given := slices.Clone(x.pages)
		if s, e := undo.Write(given); e != api.OK || s != filled(x.want) {
			t.Errorf("%v: %q and %d", x.pages, s, e)
		}
		if !slices.Equal(given, x.pages) {
			t.Errorf("%v became %v", x.pages, given)
		}
	}
}

func TestWriteOfEachCount(t *testing.T) {
	for n := range 32 {
		s, e := undo.Write(from(65505-n, n))
		if e != api.OK || len(s) != 64 || s[0] != byte(n) || s[1+2*n:] != zeros[1+2*n:] {
			t.Fatalf("%d pages: %q and %d", n, s, e)
		}
		for i := range n {
			if got := int(s[1+2*i])<<8 | int(s[2+2*i]); got != 65505-n+i {
				t.Errorf("page %d of %d: %d", i, n, got)
			}
		}
	}
	for _, n := range []int{32, 33, 64, 255, 256, 257, 65536} {
		if s, e := undo.Write(from(0, n)); e != api.ErrLong || s != "" {
			t.Errorf("%d pages: %q and %d", n, s, e)
		}
	}
}

func TestWriteOfEachNumber(t *testing.T) {
	for p := range 65536 {
		want := filled(string([]byte{1, byte(p / 256), byte(p % 256)}))
		if s, e := undo.Write([]int{p}); e != api.OK || s != want {
			t.Fatalf("%d: %q and %d", p, s, e)
		}
	}
	for _, p := range numbers {
		for _, i := range []int{0, 15, 30} {
			l := from(1000, 31)
			l[i] = p
			want := api.OK
			if p < 0 || p > 65535 {
				want = api.ErrArg
			}
			if s, e := undo.Write(l); e != want || (s == "") != (e != api.OK) {
				t.Errorf("%d at %d: %q and %d, not %d", p, i, s, e, want)
			}
		}
	}
}

func TestWriteOfANumberTwice(t *testing.T) {
	for _, p := range []int{0, 1, 255, 256, 258, 65535} {
		for j := range 31 {
			for i := range j {
				l := from(1000, 31)
				l[i], l[j] = p, p
				if s, e := undo.Write(l); e != api.ErrArg || s != "" {
					t.Fatalf("%d at %d and %d: %q and %d", p, i, j, s, e)
				}
				if s, e := undo.Write(l[:j]); e != api.OK || s == "" {
					t.Fatalf("%d at %d alone: %q and %d", p, i, s, e)
				}
			}
		}
	}
	// Numbers that are one only in their two low bytes.
	for _, l := range [][]int{{1, 65537}, {65536, 0}, {-1, 65535}} {
		if s, e := undo.Write(l); e != api.ErrArg || s != "" {
			t.Errorf("%v: %q and %d", l, s, e)
		}
	}
}

// R1: too many pages are told ahead of pages that may not be.
func TestWhichErrorIsTold(t *testing.T) {
	for i, l := range [][]int{make([]int, 32), append([]int{-1}, from(0, 31)...), append([]int{65536}, from(0, 31)...), append([]int{0}, from(0, 31)...), append([]int{-1, 65536, 5, 5}, from(0, 28)...)} {
		if s, e := undo.Write(l); e != api.ErrLong || s != "" {
			t.Errorf("%d: %q and %d", i, s, e)
		}
		if s, e := undo.Write(l[:31]); e != api.ErrArg || s != "" {
			t.Errorf("%d without its last: %q and %d", i, s, e)
		}
	}
}

func TestMark(t *testing.T) {
	if s := undo.Mark(true); s != filled("\x01") {
		t.Errorf("yes: %q", s)
	}
	if s := undo.Mark(false); s != zeros {
		t.Errorf("no: %q", s)
	}
}

func TestMarked(t *testing.T) {
	if undo.Marked("") {
		t.Error("no bytes say yes")
	}
	for c := range 256 {
		for _, rest := range []string{"", "\x00", "\x01", zeros[1:], full(64)[1:], full(200), strings.Repeat("\xff", 63)} {
			if got := undo.Marked(string([]byte{byte(c)}) + rest); got != (c != 0) {
				t.Errorf("%d and %q: %t", c, rest, got)
			}
		}
	}
	if undo.Marked(undo.Mark(false)) || !undo.Marked(undo.Mark(true)) {
		t.Error("a mark doesn't say what it was made to say")
	}
}

// Whatever was there, and wherever it is torn, a mark says what one of both says.
func TestTornMark(t *testing.T) {
	marks := []string{undo.Mark(false), undo.Mark(true)}
	for _, old := range append(slices.Clone(marks), full(64), filled("\x80"), strings.Repeat("\xff", 64), "\x00"+strings.Repeat("\xff", 63)) {
		for _, fresh := range marks {
			for cut := range 65 {
				torn := undo.Marked(fresh[:cut] + old[cut:])
				if torn != undo.Marked(old) && torn != undo.Marked(fresh) {
					t.Errorf("%q over %q, torn at %d: %t", fresh, old, cut, torn)
				}
				if cut == 0 && torn != undo.Marked(old) || cut == 64 && torn != undo.Marked(fresh) {
					t.Errorf("%q over %q, whole: %t", fresh, old, torn)
				}
			}
		}
	}
	// Bytes of one and of the other, as a device may leave them, whichever are kept.
	d := draws(7)
	for range 500 {
		b := []byte(marks[0])
		for i := range b {
			b[i] = marks[d.below(2)][i]
		}
		if got := string(b); undo.Marked(got) != (got == marks[1]) {
			t.Fatalf("%q is neither mark", got)
		}
	}
}

// W0: the calls end without a panic; a panic would fail the test.
func TestEveryCallEnds(t *testing.T) {
	for _, n := range []int{0, 1, 2, 31, 32, 63, 64, 65, 255, 256, 257, 1 << 14} {
		for _, c := range []string{"\x00", "\x01", "\x1f", "\x20", "\xff"} {
			s := strings.Repeat(c, n)
			undo.Cut(s)
			undo.Read(s)
			undo.Marked(s)
			undo.Join([]string{s, s, s, s})
			undo.Join(slices.Repeat([]string{s}, min(n, 300)))
		}
		for _, p := range numbers {
			undo.Write(slices.Repeat([]int{p}, n))
			undo.Write(from(p, n))
		}
	}
}

func Example() {
	s, e := undo.Write([]int{3, 258})
	fmt.Println([]byte(s[:5]), s[5:] == zeros[:59], e)
	l, e := undo.Read(s)
	fmt.Println(l, e)
	// Output:
	// [2 0 3 1 2] true 0
	// [3 258] 0
}
