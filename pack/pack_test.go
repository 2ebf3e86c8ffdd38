package pack_test

import (
	"bytes"
	"cmp"
	"math"
	"strings"
	"testing"

	"factotum/api"
	"factotum/pack"
)

// whole is a number whose eight bytes are unlike, so that a wrong byte or order is seen.
const whole uint64 = 0xf1e2d3c4b5a69788

// sizes are widths of numbers, those that may be and those that count as others.
var sizes = []int{math.MinInt, -8, -1, 0, 1, 2, 3, 4, 5, 6, 7, 8, 9, 16, 64, math.MaxInt}

// counted is the width that k counts as.
func counted(k int) int {
	switch {
	case k < 1:
		return 1
	case k > 8:
		return 8
	}
	return k
}

func TestNumOfEachSize(t *testing.T) {
	const eight = "\xf1\xe2\xd3\xc4\xb5\xa6\x97\x88"
	for _, k := range sizes {
		want := eight[8-counted(k):]
		if got := string(pack.Num(nil, whole, k)); got != want {
			t.Errorf("%d bytes: %x, not %x", k, got, want)
		}
		if got := string(pack.Num([]byte("ab"), whole, k)); got != "ab"+want {
			t.Errorf("%d bytes behind others: %x", k, got)
		}
	}
}

func TestNumAtEdges(t *testing.T) {
	for i, x := range []struct {
		n    uint64
		k    int
		want string
	}{
		{258, 2, "\x01\x02"},
		{0, 1, "\x00"},
		{0, 8, "\x00\x00\x00\x00\x00\x00\x00\x00"},
		{255, 1, "\xff"},
		{256, 1, "\x00"},
		{65535, 2, "\xff\xff"},
		{65536, 2, "\x00\x00"},
		{1, 4, "\x00\x00\x00\x01"},
		{1 << 63, 8, "\x80\x00\x00\x00\x00\x00\x00\x00"},
		{math.MaxUint64, 8, "\xff\xff\xff\xff\xff\xff\xff\xff"},
		{math.MaxUint64, 3, "\xff\xff\xff"},
	} {
		if got := string(pack.Num(nil, x.n, x.k)); got != x.want {
			t.Errorf("%d: %x", i, got)
		}
	}
}

func TestStrOfEachLength(t *testing.T) {
	if got := string(pack.Str(nil, "ab")); got != "\x02ab" {
		t.Errorf("%x", got)
	}
	for _, n := range []int{0, 1, 2, 127, 128, 254, 255, 256, 257, 300, 511, 512, 70000} {
		s := strings.Repeat("abc\x00\xff", n/5+1)[:n]
		told := min(n, 255)
		want := string([]byte{byte(told)}) + s[:told]
		if got := string(pack.Str(nil, s)); got != want {
			t.Errorf("%d bytes: %x", n, got)
		}
		if got := string(pack.Str([]byte("xy"), s)); got != "xy"+want {
			t.Errorf("%d bytes behind others: %x", n, got)
		}
	}
}

func TestWhatIsHandedInStays(t *testing.T) {
	for _, room := range []int{0, 1, 400} {
		b := make([]byte, 3, 3+room)
		copy(b, "abc")
		pack.Num(b, whole, 8)
		pack.Str(b, "a longer text")
		if string(b) != "abc" || len(b) != 3 {
			t.Errorf("room for %d: %q", room, b)
		}
	}
}

func TestFitsAtEdges(t *testing.T) {
	for _, k := range sizes {
		w := counted(k)
		for _, n := range []uint64{0, 1, 127, 128, 255} {
			if !pack.Fits(n, k) {
				t.Errorf("%d in %d bytes", n, k)
			}
		}
		if most := uint64(math.MaxUint64) >> (64 - 8*w); !pack.Fits(most, k) {
			t.Errorf("%d in %d bytes", most, k)
		}
		if w < 8 && pack.Fits(1<<(8*w), k) {
			t.Errorf("1<<%d in %d bytes", 8*w, k)
		}
		if got := pack.Fits(math.MaxUint64, k); got != (w == 8) {
			t.Errorf("the greatest number in %d bytes: %v", k, got)
		}
		if got := pack.Fits(1<<63, k); got != (w == 8) {
			t.Errorf("1<<63 in %d bytes: %v", k, got)
		}
	}
}

// stands checks where a reader is and what its error is.
func stands(t *testing.T, what string, r *pack.Reader, left int, e api.Errno) {
	t.Helper()
	if r.Left() != left || r.Err() != e {
		t.Errorf("%s: %d left, error %d; not %d and %d", what, r.Left(), r.Err(), left, e)
	}
}

func TestReadNumOfEachSize(t *testing.T) {
	b := pack.Num(nil, whole, 8)
	for _, k := range sizes {
		r := pack.From(string(b))
		want := whole >> (64 - 8*counted(k))
		if got := r.Num(k); got != want {
			t.Errorf("%d bytes: %x, not %x", k, got, want)
		}
		stands(t, "behind the number", r, 8-counted(k), api.OK)
	}
}

func TestReadNumThatEnds(t *testing.T) {
	for _, k := range sizes {
		short := strings.Repeat("\xff", counted(k)-1)
		r := pack.From(short)
		if got := r.Num(k); got != 0 {
			t.Errorf("%d bytes: %x", k, got)
		}
		stands(t, "a number that ends", r, len(short), api.ErrShort)
	}
}

func TestReadStr(t *testing.T) {
	full := strings.Repeat("x", 255)
	for i, x := range []struct {
		bytes string
		most  int
		want  string
		left  int
		err   api.Errno
	}{
		{"\x00", 0, "", 0, api.OK},
		{"\x00z", math.MaxInt, "", 1, api.OK},
		{"\x03abcd", 3, "abc", 1, api.OK},
		{"\x03abcd", 4, "abc", 1, api.OK},
		{"\x03abc", math.MaxInt, "abc", 0, api.OK},
		{"\xff" + full, 255, full, 0, api.OK},
		{"\xff" + full, 254, "", 256, api.ErrLong},
		{"\x03abcd", 2, "", 5, api.ErrLong},
		{"\x03abcd", 0, "", 5, api.ErrLong},
		{"\x00", -1, "", 1, api.ErrLong},
		{"\x01a", math.MinInt, "", 2, api.ErrLong},
		{"", 9, "", 0, api.ErrShort},
		{"", 0, "", 0, api.ErrShort},
		{"", -1, "", 0, api.ErrShort},
		{"\x03ab", 3, "", 3, api.ErrShort},
		{"\x03ab", 9, "", 3, api.ErrShort},
		{"\x01", 1, "", 1, api.ErrShort},
		{"\xff" + full[1:], 255, "", 255, api.ErrShort},
	} {
		r := pack.From(x.bytes)
		if got := r.Str(x.most); got != x.want || r.Left() != x.left || r.Err() != x.err {
			t.Errorf("%d: %q, %d left, error %d", i, got, r.Left(), r.Err())
		}
	}
}

func TestLongIsToldAheadOfShort(t *testing.T) {
	for _, s := range []string{"\x03", "\x03a", "\x03ab"} {
		r := pack.From(s)
		if got := r.Str(2); got != "" {
			t.Errorf("%q", got)
		}
		stands(t, "both errors", r, len(s), api.ErrLong)
	}
}

func TestReadRaw(t *testing.T) {
	for _, k := range []int{math.MinInt, -2, -1, 0} {
		for _, s := range []string{"", "abc"} {
			r := pack.From(s)
			if got := r.Raw(k); got != "" {
				t.Errorf("%d of %q: %q", k, s, got)
			}
			stands(t, "no bytes", r, len(s), api.OK)
		}
	}
	r := pack.From("abcde")
	if r.Raw(2) != "ab" || r.Raw(3) != "cde" || r.Raw(0) != "" {
		t.Error("parts of abcde")
	}
	stands(t, "all bytes", r, 0, api.OK)
	for _, k := range []int{4, 5, math.MaxInt} {
		r := pack.From("abc")
		if got := r.Raw(k); got != "" {
			t.Errorf("%d of abc: %q", k, got)
		}
		stands(t, "too many bytes", r, 3, api.ErrShort)
	}
}

// behindError checks that a reader with an error reads nothing that it could read else.
func behindError(t *testing.T, r *pack.Reader, left int, e api.Errno) {
	t.Helper()
	for range 2 {
		if n := r.Num(1); n != 0 {
			t.Errorf("a number behind an error: %d", n)
		}
		if s := r.Str(255); s != "" {
			t.Errorf("a text behind an error: %q", s)
		}
		if s := r.Raw(1) + r.Raw(-1) + r.Raw(0) + r.Raw(999); s != "" {
			t.Errorf("bytes behind an error: %q", s)
		}
		if s := r.Str(0) + r.Str(-1); s != "" {
			t.Errorf("a text behind an error: %q", s)
		}
		stands(t, "behind an error", r, left, e)
		if got := r.Done(); got != e {
			t.Errorf("done with %d, not %d", got, e)
		}
	}
}

func TestFirstErrorStays(t *testing.T) {
	const s = "\x02abc"
	for _, x := range []struct {
		meet func(r *pack.Reader)
		err  api.Errno
	}{
		{func(r *pack.Reader) { r.Num(5) }, api.ErrShort},
		{func(r *pack.Reader) { r.Raw(5) }, api.ErrShort},
		{func(r *pack.Reader) { r.Str(1) }, api.ErrLong},
	} {
		r := pack.From(s)
		x.meet(r)
		behindError(t, r, len(s), x.err)
	}
	r := pack.From("\x07abc")
	r.Str(7)
	behindError(t, r, 4, api.ErrShort)
	r = pack.From("")
	r.Num(1)
	behindError(t, r, 0, api.ErrShort)
}

func TestErrorWithinBytes(t *testing.T) {
	r := pack.From("\x01\x02\x03abcd")
	if n := r.Num(2); n != 258 {
		t.Error(n)
	}
	r.Str(2)
	behindError(t, r, 5, api.ErrLong)
}

func TestDone(t *testing.T) {
	r := pack.From("ab")
	for _, left := range []int{2, 1} {
		if e := r.Done(); e != api.ErrBytes {
			t.Errorf("%d left: %d", left, e)
		}
		stands(t, "asked too early", r, left, api.OK)
		r.Raw(1)
	}
	if e := r.Done(); e != api.OK {
		t.Errorf("at the end: %d", e)
	}
	if e := pack.From("").Done(); e != api.OK {
		t.Errorf("of no bytes: %d", e)
	}
}

func TestNilReader(t *testing.T) {
	var r *pack.Reader
	for _, k := range sizes {
		if r.Num(k) != 0 || r.Str(k) != "" || r.Raw(k) != "" {
			t.Errorf("nil reads at %d", k)
		}
	}
	stands(t, "nil", r, 0, api.ErrArg)
	if e := r.Done(); e != api.ErrArg {
		t.Errorf("nil is done with %d", e)
	}
}

func TestReaderWithoutBytes(t *testing.T) {
	var r pack.Reader
	if e := r.Done(); e != api.OK {
		t.Errorf("a reader of nothing is done with %d", e)
	}
	r.Num(1)
	stands(t, "a reader of nothing", &r, 0, api.ErrShort)
}

// The calls end without a panic at every pair of bytes and size: a panic would fail the test.
func TestEveryCallEnds(t *testing.T) {
	bytesOf := []string{"", "\x00", "\x01", "\x01a", "\xff", "\xff" + strings.Repeat("a", 254), "\xff" + strings.Repeat("a", 255)}
	for _, s := range bytesOf {
		for _, k := range sizes {
			for _, n := range []uint64{0, whole, math.MaxUint64} {
				pack.Num([]byte(s), n, k)
				pack.Fits(n, k)
			}
			pack.Str([]byte(s), s)
			pack.Str(nil, s)
			for _, r := range []*pack.Reader{pack.From(s), nil} {
				r.Raw(k)
				r.Str(k)
				r.Num(k)
				r.Done()
			}
		}
	}
}

// item is a thing that is written and read again: a number of so many bytes, a text, or plain bytes.
type item struct {
	kind, size int
	n          uint64
	s          string
}

func (x item) write(b []byte) []byte {
	switch x.kind {
	case 0:
		return pack.Num(b, x.n, x.size)
	case 1:
		return pack.Str(b, x.s)
	}
	return append(b, x.s...)
}

// isRead reads the item and says whether it is the same.
func (x item) isRead(r *pack.Reader) bool {
	switch x.kind {
	case 0:
		return r.Num(x.size) == x.n
	case 1:
		return r.Str(len(x.s)) == x.s
	}
	return r.Raw(len(x.s)) == x.s
}

// again writes the items one behind the other and reads them in that order.
func again(t *testing.T, l []item) {
	t.Helper()
	var b []byte
	for _, x := range l {
		b = x.write(b)
	}
	r := pack.From(string(b))
	for i, x := range l {
		if !x.isRead(r) {
			t.Fatalf("%v: item %d isn't read again: error %d", l, i, r.Err())
		}
	}
	if e := r.Done(); e != api.OK {
		t.Fatalf("%v: done with %d", l, e)
	}
}

func TestWhatIsWrittenIsReadAgain(t *testing.T) {
	text := strings.Repeat("t\x00\xff", 85)
	items := []item{
		{kind: 0, size: 1, n: 255},
		{kind: 0, size: 8, n: whole},
		{kind: 1, s: ""},
		{kind: 1, s: text},
		{kind: 2, s: "\x00raw\xff"},
	}
	everyOrder(items, 0, func(l []item) { again(t, l) })
	for k := 1; k <= 8; k++ {
		again(t, []item{{size: k, n: whole >> (64 - 8*k)}, {size: 9 - k, n: 1}, {size: k, n: 0}})
	}
	for n := range 256 {
		again(t, []item{{kind: 1, s: text[:n]}, {size: 1, n: uint64(n)}})
	}
}

// everyOrder calls f with the items in every order of those from i on.
func everyOrder(l []item, i int, f func([]item)) {
	if i == len(l) {
		f(l)
		return
	}
	for j := i; j < len(l); j++ {
		l[i], l[j] = l[j], l[i]
		everyOrder(l, i+1, f)
		l[i], l[j] = l[j], l[i]
	}
}

// draws gives numbers that look unordered and are the same in every run.
func draws(seed uint64) func() uint64 {
	return func() uint64 {
		seed ^= seed << 13
		seed ^= seed >> 7
		seed ^= seed << 17
		return seed
	}
}

// drawn is an item made of drawn numbers.
func drawn(draw func() uint64) item {
	kind := int(draw() % 3)
	if kind == 0 {
		size := int(draw()%8) + 1
		return item{size: size, n: draw() >> (64 - 8*size)}
	}
	b := make([]byte, draw()%256)
	for i := range b {
		b[i] = byte(draw())
	}
	return item{kind: kind, s: string(b)}
}

func TestManyRowsAreReadAgain(t *testing.T) {
	draw := draws(1)
	for range 2000 {
		l := make([]item, draw()%12)
		for i := range l {
			l[i] = drawn(draw)
		}
		again(t, l)
	}
}

func TestBytesAreOrderedAsNumbers(t *testing.T) {
	draw := draws(2)
	for k := 1; k <= 8; k++ {
		l := []uint64{0, 1, 127, 128, 254, 255}
		for i := 8; i <= 8*k; i += 8 {
			top := uint64(math.MaxUint64) >> (64 - i)
			l = append(l, top, top-1, top/2, top/2+1, top>>8+1)
		}
		for range 100 {
			l = append(l, draw()>>(64-8*k))
		}
		for _, a := range l {
			for _, b := range l {
				if !pack.Fits(a, k) || !pack.Fits(b, k) {
					t.Fatalf("%d and %d in %d bytes", a, b, k)
				}
				if got := bytes.Compare(pack.Num(nil, a, k), pack.Num(nil, b, k)); got != cmp.Compare(a, b) {
					t.Fatalf("%d and %d in %d bytes: %d", a, b, k, got)
				}
			}
		}
	}
}
