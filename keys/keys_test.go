package keys_test

import (
	"cmp"
	"math"
	"slices"
	"strings"
	"testing"

	"factotum/api"
	"factotum/keys"
)

func num(n int64) api.Value { return api.Value{Kind: api.Int, N: n} }

func text(s string) api.Value { return api.Value{Kind: api.Text, S: s} }

func tuple(l ...api.Value) []api.Value { return l }

// wrong are values that may not be, of each sort.
var wrong = []api.Value{
	{},
	{N: 1},
	{S: "a"},
	{Kind: api.Int, S: "a"},
	{Kind: api.Int, S: "\x00"},
	{Kind: api.Int, N: 5, S: "a"},
	{Kind: api.Text, N: 1},
	{Kind: api.Text, N: -1},
	{Kind: api.Text, N: math.MinInt64, S: "a"},
	{Kind: 3},
	{Kind: 3, N: 1},
	{Kind: -1},
	{Kind: 257},
	{Kind: 258, S: "a"},
	{Kind: math.MaxInt},
	{Kind: math.MinInt},
}

// write is the bytes of a tuple that may be.
func write(t *testing.T, l []api.Value) string {
	t.Helper()
	s, e := keys.Write(l)
	if e != api.OK {
		t.Fatalf("Write of %v: %d", l, e)
	}
	return s
}

func TestWriteTellsBytes(t *testing.T) {
	for _, x := range []struct {
		l    []api.Value
		want string
	}{
		{nil, ""},
		{[]api.Value{}, ""},
		{tuple(num(-1)), "\x01\x7f\xff\xff\xff\xff\xff\xff\xff"},
		{tuple(num(0)), "\x01\x80\x00\x00\x00\x00\x00\x00\x00"},
		{tuple(num(1)), "\x01\x80\x00\x00\x00\x00\x00\x00\x01"},
		{tuple(num(255)), "\x01\x80\x00\x00\x00\x00\x00\x00\xff"},
		{tuple(num(256)), "\x01\x80\x00\x00\x00\x00\x00\x01\x00"},
		{tuple(num(-256)), "\x01\x7f\xff\xff\xff\xff\xff\xff\x00"},
		{tuple(num(math.MinInt64)), "\x01\x00\x00\x00\x00\x00\x00\x00\x00"},
		{tuple(num(math.MinInt64 + 1)), "\x01\x00\x00\x00\x00\x00\x00\x00\x01"},
		{tuple(num(math.MaxInt64)), "\x01\xff\xff\xff\xff\xff\xff\xff\xff"},
		{tuple(num(math.MaxInt64 - 1)), "\x01\xff\xff\xff\xff\xff\xff\xff\xfe"},
		{tuple(num(0x0102030405060708)), "\x01\x81\x02\x03\x04\x05\x06\x07\x08"},
		{tuple(text("")), "\x02\x00\x01"},
		{tuple(text("a")), "\x02a\x00\x01"},
		{tuple(text("\x00")), "\x02\x00\xff\x00\x01"},
		{tuple(text("\x01")), "\x02\x01\x00\x01"},
		{tuple(text("\x02")), "\x02\x02\x00\x01"},
		{tuple(text("\xff")), "\x02\xff\x00\x01"},
		{tuple(text("\x00\x00")), "\x02\x00\xff\x00\xff\x00\x01"},
		{tuple(text("\x00\x01")), "\x02\x00\xff\x01\x00\x01"},
		{tuple(text("\x00\xff")), "\x02\x00\xff\xff\x00\x01"},
		{tuple(text("a\x00b\xff\x01")), "\x02a\x00\xffb\xff\x01\x00\x01"},
		{tuple(num(-1), text("a")), "\x01\x7f\xff\xff\xff\xff\xff\xff\xff\x02a\x00\x01"},
		{tuple(text("a"), text(""), num(0)), "\x02a\x00\x01\x02\x00\x01\x01\x80\x00\x00\x00\x00\x00\x00\x00"},
	} {
		if got := write(t, x.l); got != x.want {
			t.Errorf("%v: %x, not %x", x.l, got, x.want)
		}
	}
}

func TestWriteOfLongTexts(t *testing.T) {
	for _, n := range []int{254, 255, 256, 257, 65536} {
		s := strings.Repeat("x", n)
		if got := write(t, tuple(text(s))); got != "\x02"+s+"\x00\x01" {
			t.Errorf("a text of %d bytes is %d bytes", n, len(got))
		}
		if got := write(t, tuple(text(strings.Repeat("\x00", n)))); got != "\x02"+strings.Repeat("\x00\xff", n)+"\x00\x01" {
			t.Errorf("a text of %d bytes of 0 is %d bytes", n, len(got))
		}
	}
}

func TestWriteRefusesValuesThatMayNotBe(t *testing.T) {
	for _, v := range wrong {
		for place := range 3 {
			l := tuple(num(1), text("a"))
			l = slices.Insert(l, place, v)
			if s, e := keys.Write(l); s != "" || e != api.ErrKind {
				t.Errorf("%v: %x, %d", l, s, e)
			}
		}
	}
}

func TestReadTellsTuples(t *testing.T) {
	for _, x := range []struct {
		s    string
		want []api.Value
	}{
		{"", nil},
		{"\x01\x7f\xff\xff\xff\xff\xff\xff\xff", tuple(num(-1))},
		{"\x01\x00\x00\x00\x00\x00\x00\x00\x00", tuple(num(math.MinInt64))},
		{"\x01\xff\xff\xff\xff\xff\xff\xff\xff", tuple(num(math.MaxInt64))},
		{"\x01\x80\x00\x00\x00\x00\x00\x00\x00", tuple(num(0))},
		{"\x01\x81\x02\x03\x04\x05\x06\x07\x08", tuple(num(0x0102030405060708))},
		{"\x02\x00\x01", tuple(text(""))},
		{"\x02a\x00\x01", tuple(text("a"))},
		{"\x02\x00\xff\x00\x01", tuple(text("\x00"))},
		{"\x02\x00\xff\x01\x00\x01", tuple(text("\x00\x01"))},
		{"\x02\xff\xff\x00\x01", tuple(text("\xff\xff"))},
		{"\x02\x00\x01\x02\x00\x01", tuple(text(""), text(""))},
		{"\x02\x01\x00\x01\x01\x80\x00\x00\x00\x00\x00\x00\x02", tuple(text("\x01"), num(2))},
	} {
		if got, e := keys.Read(x.s); e != api.OK || !slices.Equal(got, x.want) {
			t.Errorf("%x: %v, %d", x.s, got, e)
		}
	}
}

func TestReadRefusesBytes(t *testing.T) {
	const one = "\x01\x80\x00\x00\x00\x00\x00\x00\x01"
	for _, x := range []struct {
		s    string
		want api.Errno
	}{
		{"\x01", api.ErrShort},
		{"\x01\x80\x00\x00\x00\x00\x00\x00", api.ErrShort},
		{"\x01\x03\x03\x03", api.ErrShort},
		{"\x02", api.ErrShort},
		{"\x02a", api.ErrShort},
		{"\x02\x00", api.ErrShort},
		{"\x02\x00\xff", api.ErrShort},
		{"\x02\x00\xff\x00", api.ErrShort},
		{"\x02a\x00\xffb", api.ErrShort},
		{one + "\x01", api.ErrShort},
		{one + "\x02a\x00", api.ErrShort},
		{"\x00", api.ErrBytes},
		{"\x03", api.ErrBytes},
		{"\xff", api.ErrBytes},
		{"\x00\x01", api.ErrBytes},
		{one + "\x00", api.ErrBytes},
		{one + "\x03\x02", api.ErrBytes},
		{"\x02\x00\x00", api.ErrBytes},
		{"\x02\x00\x02", api.ErrBytes},
		{"\x02\x00\xfe", api.ErrBytes},
		{"\x02a\x00\xff\x00\x03", api.ErrBytes},
		{"\x02\x00\x01\x00", api.ErrBytes},
		// A fault further left is told, whatever stands behind it.
		{"\x03" + one + "\x01", api.ErrBytes},
		{"\x02\x00\x05\x01", api.ErrBytes},
		{"\x02\x00\x00\x00\x01", api.ErrBytes},
		{"\x02a\x00\x01\x00\x02", api.ErrBytes},
		{"\x01\x00\x00\x00", api.ErrShort},
		{"\x02\x03\x03\x03", api.ErrShort},
	} {
		if got, e := keys.Read(x.s); e != x.want || len(got) != 0 {
			t.Errorf("%x: %v, %d, not %d", x.s, got, e, x.want)
		}
	}
}

// told is what bytes are by the chapter's words, found from the left by looking for a text's end instead of going through it.
func told(s string) ([]api.Value, api.Errno) {
	var l []api.Value
	for s != "" {
		switch s[0] {
		case 1:
			if len(s) < 9 {
				return nil, api.ErrShort
			}
			n := int64(math.MinInt64)
			for i := 1; i < 9; i++ {
				n += int64(s[i]) << (64 - 8*i)
			}
			l, s = append(l, num(n)), s[9:]
		case 2:
			got := ""
			for s = s[1:]; ; {
				head, tail, found := strings.Cut(s, "\x00")
				if !found || tail == "" {
					return nil, api.ErrShort
				}
				got, s = got+head, tail[1:]
				if tail[0] == 1 {
					break
				}
				if tail[0] != 255 {
					return nil, api.ErrBytes
				}
				got += "\x00"
			}
			l = append(l, text(got))
		default:
			return nil, api.ErrBytes
		}
	}
	return l, api.OK
}

// allTexts hands on every text of at most so many of the bytes.
func allTexts(bytes string, most int, do func(string)) {
	do("")
	if most == 0 {
		return
	}
	for i := range len(bytes) {
		allTexts(bytes, most-1, func(s string) { do(bytes[i:i+1] + s) })
	}
}

// checkRead holds what is read of any bytes against the chapter's words, and what may be read against what is written.
func checkRead(t *testing.T, s string) {
	t.Helper()
	want, f := told(s)
	got, e := keys.Read(s)
	if e != f || !slices.Equal(got, want) {
		t.Fatalf("%x: %v, %d, not %v, %d", s, got, e, want, f)
	}
	if e == api.OK && write(t, got) != s {
		t.Fatalf("%x is %v, which is written otherwise", s, got)
	}
}

func TestReadOfAllShortBytes(t *testing.T) {
	allTexts("\x00\x01\x02\x03a\xff", 6, func(s string) { checkRead(t, s) })
	for _, ahead := range []string{"\x01\x80\x00\x00\x00\x00\x00", "\x02a\x00\x01", "\x02\x00\xff", "\x02b\x00"} {
		allTexts("\x00\x01\x02\xfe\xff", 4, func(s string) { checkRead(t, ahead+s) })
	}
}

func TestReadOfAnyBytes(t *testing.T) {
	d := draws(7)
	for range 20000 {
		b := make([]byte, d.below(24))
		for i := range b {
			b[i] = "\x00\x00\x01\x01\x02\x02\x03\x80\xfe\xff"[d.below(10)]
			if d.below(4) == 0 {
				b[i] = byte(d.below(256))
			}
		}
		checkRead(t, string(b))
	}
}

func TestReadAnswersNewMemory(t *testing.T) {
	s := write(t, tuple(num(1), text("a")))
	first, _ := keys.Read(s)
	first[0], first[1] = text("x"), num(9)
	if again, e := keys.Read(s); e != api.OK || !slices.Equal(again, tuple(num(1), text("a"))) {
		t.Error(again, e)
	}
}

func TestCallsLeaveWhatTheyAreGiven(t *testing.T) {
	whole := tuple(num(1), text("a\x00"), num(7))
	l := whole[:2]
	write(t, l)
	keys.Compare(l, whole)
	keys.Compare(whole, l)
	if !slices.Equal(whole, tuple(num(1), text("a\x00"), num(7))) {
		t.Error(whole)
	}
}

// ordered are tuples, each ahead of those behind it.
var ordered = [][]api.Value{
	nil,
	{num(math.MinInt64)},
	{num(math.MinInt64), num(math.MinInt64)},
	{num(math.MinInt64 + 1)},
	{num(-256)},
	{num(-255)},
	{num(-1)},
	{num(-1), num(5)},
	{num(-1), text("")},
	{num(-1), text(""), num(0)},
	{num(0)},
	{num(1)},
	{num(1), num(-1)},
	{num(255)},
	{num(256)},
	{num(math.MaxInt64 - 1)},
	{num(math.MaxInt64)},
	{num(math.MaxInt64), text("\xff\xff")},
	{text("")},
	{text(""), num(math.MinInt64)},
	{text(""), text("")},
	{text(""), text("\xff")},
	{text("\x00")},
	{text("\x00"), num(1)},
	{text("\x00"), text("\x00")},
	{text("\x00\x00")},
	{text("\x00\x01")},
	{text("\x00\xff")},
	{text("\x01")},
	{text("\x01\x00")},
	{text("a")},
	{text("a"), num(9)},
	{text("a"), text("z")},
	{text("a\x00")},
	{text("a\x00"), num(math.MinInt64)},
	{text("a\x01")},
	{text("aa")},
	{text("ab")},
	{text("b")},
	{text("\xff")},
	{text("\xff\x00")},
	{text("\xff\xff")},
	{text("\xff\xff"), num(math.MinInt64)},
}

func TestCompareAndBytesOfOrderedTuples(t *testing.T) {
	for i, a := range ordered {
		for j, b := range ordered {
			want := cmp.Compare(i, j)
			if got := keys.Compare(a, b); got != want {
				t.Errorf("%v and %v: %d", a, b, got)
			}
			if got := strings.Compare(write(t, a), write(t, b)); got != want {
				t.Errorf("bytes of %v and %v: %d", a, b, got)
			}
		}
	}
}

func TestCompareOfWhateverValues(t *testing.T) {
	l := [][]api.Value{
		{},
		{{Kind: math.MinInt, N: 5, S: "z"}},
		{{Kind: -1}},
		{{}},
		{{S: "a"}},
		{{N: 1}},
		{{N: 1, S: "a"}},
		{{Kind: api.Int, N: -1, S: "z"}},
		{{Kind: api.Int}},
		{{Kind: api.Int, S: "\x00"}},
		{{Kind: api.Int, S: "a"}},
		{{Kind: api.Int, S: "ab"}},
		{{Kind: api.Int, N: 1}},
		{{Kind: api.Text, N: math.MinInt64, S: "z"}},
		{{Kind: api.Text, N: -1, S: "b"}},
		{{Kind: api.Text, S: "a"}},
		{{Kind: api.Text, S: "b"}},
		{{Kind: api.Text, N: 1}},
		{{Kind: api.Text, N: 1, S: "a"}},
		{{Kind: api.Text, N: math.MaxInt64}},
		{{Kind: 3, N: -1}},
		{{Kind: 3, N: -1}, {}},
		{{Kind: math.MaxInt, N: math.MinInt64}},
	}
	for i, a := range l {
		for j, b := range l {
			if got := keys.Compare(a, b); got != cmp.Compare(i, j) {
				t.Errorf("%v and %v: %d", a, b, got)
			}
			// The same order holds further on in a tuple, whatever stands behind.
			a2, b2 := append(tuple(num(4)), a...), append(tuple(num(4)), b...)
			if got := keys.Compare(a2, b2); got != cmp.Compare(i, j) {
				t.Errorf("%v and %v: %d", a2, b2, got)
			}
		}
	}
}

func TestNextTellsTexts(t *testing.T) {
	for _, x := range []struct {
		s, want string
		ok      bool
	}{
		{"a", "b", true},
		{"ab", "ac", true},
		{"a\x00", "a\x01", true},
		{"\x00", "\x01", true},
		{"\x7f", "\x80", true},
		{"\xfe", "\xff", true},
		{"a\xff", "b", true},
		{"a\xff\xff\xff", "b", true},
		{"a\xffb", "a\xffc", true},
		{"\xff\xffa\xff", "\xff\xffb", true},
		{"\xfe\xff", "\xff", true},
		{"\x00\xff", "\x01", true},
		{"\xff\x00", "\xff\x01", true},
		{"", "", false},
		{"\xff", "", false},
		{"\xff\xff", "", false},
		{strings.Repeat("\xff", 1000), "", false},
		{"a" + strings.Repeat("\xff", 1000), "b", true},
	} {
		if got, ok := keys.Next(x.s); got != x.want || ok != x.ok {
			t.Errorf("%x: %x, %t", x.s, got, ok)
		}
	}
}

func TestNextIsTheFirstBehindAllThatBegin(t *testing.T) {
	const some = "\x00\x01\xfe\xff"
	var all []string
	allTexts(some, 5, func(s string) { all = append(all, s) })
	allTexts(some, 3, func(s string) {
		n, ok := keys.Next(s)
		for _, x := range all {
			// All that are no later than those that begin with s are ahead of the answer, and no others.
			if ahead := x < s || strings.HasPrefix(x, s); ahead != (!ok || x < n) {
				t.Fatalf("%x: %x, %t, and %x", s, n, ok, x)
			}
		}
	})
}

// draws are numbers that look drawn, the same in each run.
type draws uint64

func (d *draws) next() uint64 {
	x := uint64(*d)
	x ^= x << 13
	x ^= x >> 7
	x ^= x << 17
	*d = draws(x)
	return x
}

func (d *draws) below(n int) int { return int(d.next() >> 1 % uint64(n)) }

// value is a value that may be, often one of few, so that tuples are alike for a while.
func (d *draws) value() api.Value {
	switch d.below(4) {
	case 0:
		return num(int64(d.next()))
	case 1:
		return num(int64(d.below(5)) - 2)
	}
	b := make([]byte, d.below(4))
	for i := range b {
		b[i] = "\x00\x01\x02\xff"[d.below(4)]
	}
	return text(string(b))
}

func (d *draws) tuple() []api.Value {
	l := make([]api.Value, d.below(4))
	for i := range l {
		l[i] = d.value()
	}
	return l
}

func begins(l, with []api.Value) bool {
	return len(l) >= len(with) && slices.Equal(l[:len(with)], with)
}

func TestWhatIsWrittenIsReadAndOrdered(t *testing.T) {
	d := draws(1)
	for range 50000 {
		a, b := d.tuple(), d.tuple()
		if d.below(2) == 0 {
			b = append(slices.Clone(a), b...)
		}
		s, u := write(t, a), write(t, b)
		if got, e := keys.Read(s); e != api.OK || !slices.Equal(got, a) {
			t.Fatalf("%v is read as %v, %d", a, got, e)
		}
		c := keys.Compare(a, b)
		if c != strings.Compare(s, u) || c != -keys.Compare(b, a) {
			t.Fatalf("%v and %v: %d, their bytes %x and %x", a, b, c, s, u)
		}
		if (c == 0) != slices.Equal(a, b) {
			t.Fatalf("%v and %v: %d", a, b, c)
		}
		if strings.HasPrefix(u, s) != begins(b, a) {
			t.Fatalf("%v and %v, their bytes %x and %x", a, b, s, u)
		}
	}
}

func TestWhatBeginsWithATuplesBytes(t *testing.T) {
	for _, a := range ordered {
		s := write(t, a)
		next, ok := keys.Next(s)
		allTexts("\x00\x01\x02a\xff", 4, func(more string) {
			l, e := keys.Read(s + more)
			rest, f := keys.Read(more)
			if e != f || e == api.OK && (!begins(l, a) || !slices.Equal(l[len(a):], rest)) {
				t.Fatalf("%x behind %v: %v, %d", more, a, l, e)
			}
			if ok && s+more >= next {
				t.Fatalf("%x behind %v isn't ahead of %x", more, a, next)
			}
		})
	}
}

func FuzzReadAndWrite(f *testing.F) {
	for _, l := range ordered {
		s, _ := keys.Write(l)
		f.Add(s)
	}
	f.Fuzz(func(t *testing.T, s string) {
		checkRead(t, s)
		keys.Next(s)
	})
}
