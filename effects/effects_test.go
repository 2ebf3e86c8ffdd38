package effects_test

import (
	"math"
	"slices"
	"strings"
	"testing"

	"factotum/api"
	"factotum/effects"
)

func num(n int64) api.Value { return api.Value{Kind: api.Int, N: n} }

func text(s string) api.Value { return api.Value{Kind: api.Text, S: s} }

// values are those that a register may have, with their bytes.
var values = []struct {
	v     api.Value
	bytes string
}{
	{num(0), "\x01\x00\x00\x00\x00\x00\x00\x00\x00"},
	{num(1), "\x01\x00\x00\x00\x00\x00\x00\x00\x01"},
	{num(5), "\x01\x00\x00\x00\x00\x00\x00\x00\x05"},
	{num(-1), "\x01\xff\xff\xff\xff\xff\xff\xff\xff"},
	{num(-2), "\x01\xff\xff\xff\xff\xff\xff\xff\xfe"},
	{num(256), "\x01\x00\x00\x00\x00\x00\x00\x01\x00"},
	{num(0x0102030405060708), "\x01\x01\x02\x03\x04\x05\x06\x07\x08"},
	{num(math.MaxInt64), "\x01\x7f\xff\xff\xff\xff\xff\xff\xff"},
	{num(math.MinInt64), "\x01\x80\x00\x00\x00\x00\x00\x00\x00"},
	{text(""), "\x02\x00"},
	{text("a"), "\x02\x01a"},
	{text("\x00"), "\x02\x01\x00"},
	{text("\xff"), "\x02\x01\xff"},
	{text("\x00\xff"), "\x02\x02\x00\xff"},
	{text("hi"), "\x02\x02hi"},
	{text("012345678"), "\x02\x09012345678"},
	{text("0123456789"), "\x02\x0a0123456789"},
	{text("\x00\x00\x00\x00\x00\x00\x00\x00\x00\x00"), "\x02\x0a\x00\x00\x00\x00\x00\x00\x00\x00\x00\x00"},
	{text("\xff\xff\xff\xff\xff\xff\xff\xff\xff\xff"), "\x02\x0a\xff\xff\xff\xff\xff\xff\xff\xff\xff\xff"},
}

// wrongValues are those that no register may have, beside the zero one.
var wrongValues = []api.Value{
	{N: 1},
	{N: math.MinInt64},
	{S: "a"},
	{S: "\x00"},
	{N: 1, S: "a"},
	{Kind: -1},
	{Kind: 3},
	{Kind: 3, N: 1},
	{Kind: 3, S: "a"},
	{Kind: 255},
	{Kind: 256},
	{Kind: 257},
	{Kind: 258},
	{Kind: 1<<32 + 1},
	{Kind: math.MinInt},
	{Kind: math.MaxInt},
	{Kind: api.Int, S: "a"},
	{Kind: api.Int, S: "\x00"},
	{Kind: api.Int, N: 1, S: "a"},
	{Kind: api.Int, S: "01234567890"},
	{Kind: api.Text, N: 1},
	{Kind: api.Text, N: -1},
	{Kind: api.Text, N: 1, S: "a"},
	{Kind: api.Text, N: math.MinInt64, S: "0123456789"},
	text("01234567890"),
	text("\x00\x00\x00\x00\x00\x00\x00\x00\x00\x00\x00"),
	text(strings.Repeat("a", 255)),
	text(strings.Repeat("a", 256)),
	text(strings.Repeat("a", 266)),
	text(strings.Repeat("a", 1<<16)),
}

// bothValue checks that a value has these bytes, and bytes are this value.
func bothValue(t *testing.T, v api.Value, s string) {
	t.Helper()
	if got, e := effects.Value(v); got != s || e != api.OK {
		t.Errorf("%v: %q, error %d, not %q", v, got, e, s)
	}
	if got, e := effects.Unvalue(s); got != v || e != api.OK {
		t.Errorf("%q: %v, error %d, not %v", s, got, e, v)
	}
}

// noValue checks that bytes are no value's.
func noValue(t *testing.T, s string) {
	t.Helper()
	if v, e := effects.Unvalue(s); v != (api.Value{}) || e != api.ErrCorrupt {
		t.Errorf("%q: %v, error %d", s, v, e)
	}
}

// both checks that a record has these bytes, and bytes are this record.
func both(t *testing.T, r effects.Record, s string) {
	t.Helper()
	if got, e := effects.Write(r); got != s || e != api.OK {
		t.Errorf("%v: %q, error %d, not %q", r, got, e, s)
	}
	if got, e := effects.Read(s); got != r || e != api.OK {
		t.Errorf("%q: %v, error %d, not %v", s, got, e, r)
	}
}

// refused checks that a record may not be.
func refused(t *testing.T, r effects.Record) {
	t.Helper()
	if s, e := effects.Write(r); s != "" || e != api.ErrField {
		t.Errorf("%v: %q, error %d", r, s, e)
	}
}

// noRecord checks that bytes are no record's.
func noRecord(t *testing.T, s string) {
	t.Helper()
	if r, e := effects.Read(s); r != (effects.Record{}) || e != api.ErrCorrupt {
		t.Errorf("%q: %v, error %d", s, r, e)
	}
}

// beginnings checks that neither a beginning of these bytes nor what has a byte behind them is any's.
func beginnings(t *testing.T, s string, none func(t *testing.T, s string)) {
	t.Helper()
	for k := range len(s) {
		none(t, s[:k])
	}
	for c := range 256 {
		none(t, s+string([]byte{byte(c)}))
	}
	none(t, s+s)
}

func TestExample(t *testing.T) {
	bothValue(t, num(5), "\x01\x00\x00\x00\x00\x00\x00\x00\x05")
}

func TestValues(t *testing.T) {
	for _, x := range values {
		bothValue(t, x.v, x.bytes)
		beginnings(t, x.bytes, noValue)
	}
}

func TestTextsOfEachLength(t *testing.T) {
	for _, c := range []string{"\x00", "\x01", "a", "\x7f", "\x80", "\xff"} {
		for n := range 300 {
			s := strings.Repeat(c, n)
			if n <= 10 {
				bothValue(t, text(s), string([]byte{2, byte(n)})+s)
				continue
			}
			if got, e := effects.Value(text(s)); got != "" || e != api.ErrKind {
				t.Errorf("%d times %q: %q, error %d", n, c, got, e)
			}
		}
	}
}

func TestWrongValues(t *testing.T) {
	for _, v := range append([]api.Value{{}}, wrongValues...) {
		if s, e := effects.Value(v); s != "" || e != api.ErrKind {
			t.Errorf("%v: %q, error %d", v, s, e)
		}
	}
}

func TestBytesOfNoValue(t *testing.T) {
	for k := range 256 {
		if k == 1 || k == 2 {
			continue
		}
		for _, more := range []string{"", "\x00", "\x01a", "\x00\x00\x00\x00\x00\x00\x00\x05", "\x0a0123456789"} {
			noValue(t, string([]byte{byte(k)})+more)
		}
	}
	for n := 11; n < 256; n++ {
		head := string([]byte{2, byte(n)})
		for _, more := range []string{"", "0123456789", strings.Repeat("a", n), strings.Repeat("\x00", n)} {
			noValue(t, head+more)
		}
	}
	noValue(t, strings.Repeat("\x00", 9))
	noValue(t, strings.Repeat("\x01", 1<<16))
}

func TestOf(t *testing.T) {
	for _, n := range []int{0, 1, 2, 4, 255, 256, 257, 1000} {
		for _, x := range []struct {
			e    api.Effects
			want effects.Record
		}{
			{api.Effects{Puts: make([]api.Write, n)}, effects.Record{Puts: n}},
			{api.Effects{Outs: make([]api.Value, n)}, effects.Record{Outs: n}},
			{api.Effects{Kids: make([]api.Spawn, n)}, effects.Record{Kids: n}},
			{
				api.Effects{Puts: make([]api.Write, n, 2*n+9), Outs: make([]api.Value, n+1, 2*n+9), Kids: make([]api.Spawn, n+2, 2*n+9)},
				effects.Record{Puts: n, Outs: n + 1, Kids: n + 2},
			},
		} {
			if got := effects.Of(x.e); got != x.want {
				t.Errorf("of %d: %v, not %v", n, got, x.want)
			}
			s, e := effects.Write(x.want)
			if most := max(x.want.Puts, x.want.Outs, x.want.Kids); (e == api.OK) != (most <= 255) || (e == api.OK) != (s != "") {
				t.Errorf("%v: %q, error %d", x.want, s, e)
			}
		}
	}
}

// TestOfAnyFields: a record is of effects as they stand, those that may not be written down among them.
func TestOfAnyFields(t *testing.T) {
	for _, end := range []int{math.MinInt, -1, api.Goes, api.Well, api.Badly, api.Spent, 4, math.MaxInt} {
		for _, sleep := range []int64{math.MinInt64, -1, 0, 1, 1000000, 1000001, math.MaxInt64} {
			for _, v := range append([]api.Value{{}, num(7), text("hi")}, wrongValues...) {
				x := api.Effects{End: end, Sleep: sleep, Value: v, Outs: make([]api.Value, 2)}
				want := effects.Record{End: end, Sleep: sleep, Value: v, Outs: 2}
				if got := effects.Of(x); got != want {
					t.Errorf("%v, not %v", got, want)
				}
			}
		}
	}
	frame := api.Frame{Pc: 3, Regs: []api.Value{num(1)}}
	if got := effects.Of(api.Effects{Frame: frame}); got != (effects.Record{}) {
		t.Errorf("of a frame alone: %v", got)
	}
}

// TestOfLeavesEffects: what is handed in stays as it was.
func TestOfLeavesEffects(t *testing.T) {
	puts := []api.Write{{Key: num(1), Value: text("a")}, {Key: num(2), Gone: true}}
	outs := []api.Value{num(3), text("b")}
	kids := []api.Spawn{{Program: 1, Arg: num(4), Key: text("c")}}
	p, o, k := slices.Clone(puts), slices.Clone(outs), slices.Clone(kids)
	got := effects.Of(api.Effects{Puts: puts, Outs: outs, Kids: kids, Sleep: 9, End: api.Well, Value: text("d")})
	if want := (effects.Record{End: api.Well, Value: text("d"), Sleep: 9, Puts: 2, Outs: 2, Kids: 1}); got != want {
		t.Errorf("%v, not %v", got, want)
	}
	if !slices.Equal(p, puts) || !slices.Equal(o, outs) || !slices.Equal(k, kids) {
		t.Errorf("%v %v %v", puts, outs, kids)
	}
}

func TestRecordBytes(t *testing.T) {
	for _, x := range []struct {
		r     effects.Record
		bytes string
	}{
		{effects.Record{}, "\x00\x00\x00\x00\x00\x00\x00\x00\x00"},
		{effects.Record{End: api.Spent}, "\x03\x00\x00\x00\x00\x00\x00\x00\x00"},
		{effects.Record{End: api.Well, Value: text("hi"), Sleep: 258, Puts: 1, Outs: 2, Kids: 3}, "\x01\x01\x02\x02hi\x00\x00\x01\x02\x01\x02\x03"},
		{effects.Record{End: api.Badly, Value: num(-1)}, "\x02\x01\x01\xff\xff\xff\xff\xff\xff\xff\xff\x00\x00\x00\x00\x00\x00\x00"},
		{effects.Record{End: api.Badly, Value: num(0)}, "\x02\x01\x01\x00\x00\x00\x00\x00\x00\x00\x00\x00\x00\x00\x00\x00\x00\x00"},
		{effects.Record{Value: text("")}, "\x00\x01\x02\x00\x00\x00\x00\x00\x00\x00\x00"},
		{effects.Record{Sleep: 1000000, Puts: 8, Outs: 4, Kids: 2}, "\x00\x00\x00\x0f\x42\x40\x08\x04\x02"},
		{effects.Record{Sleep: 65536, Puts: 255, Outs: 254, Kids: 253}, "\x00\x00\x00\x01\x00\x00\xff\xfe\xfd"},
		{effects.Record{End: api.Spent, Value: num(5), Sleep: 1, Puts: 1}, "\x03\x01\x01\x00\x00\x00\x00\x00\x00\x00\x05\x00\x00\x00\x01\x01\x00\x00"},
	} {
		both(t, x.r, x.bytes)
		beginnings(t, x.bytes, noRecord)
	}
}

func TestEnds(t *testing.T) {
	const rest = "\x00\x00\x00\x00\x00\x00\x00\x00"
	for end := range 256 {
		s := string([]byte{byte(end)}) + rest
		if end <= 3 {
			both(t, effects.Record{End: end}, s)
			continue
		}
		refused(t, effects.Record{End: end})
		noRecord(t, s)
	}
	for _, end := range []int{math.MinInt, math.MinInt + 1, -256, -255, -2, -1, 4, 5, 256, 257, 259, 1 << 32, 1<<32 + 1, math.MaxInt} {
		refused(t, effects.Record{End: end})
		refused(t, effects.Record{End: end, Value: num(5), Sleep: 5, Puts: 1, Outs: 1, Kids: 1})
	}
}

func TestRecordValues(t *testing.T) {
	for end := range 4 {
		head := string([]byte{byte(end)})
		both(t, effects.Record{End: end, Sleep: 7}, head+"\x00\x00\x00\x00\x07\x00\x00\x00")
		for _, x := range values {
			both(t, effects.Record{End: end, Value: x.v, Sleep: 7}, head+"\x01"+x.bytes+"\x00\x00\x00\x07\x00\x00\x00")
		}
		for _, v := range wrongValues {
			refused(t, effects.Record{End: end, Value: v, Sleep: 7})
		}
	}
}

func TestSleeps(t *testing.T) {
	for _, x := range []struct {
		n     int64
		bytes string
	}{
		{0, "\x00\x00\x00\x00"},
		{1, "\x00\x00\x00\x01"},
		{255, "\x00\x00\x00\xff"},
		{256, "\x00\x00\x01\x00"},
		{65535, "\x00\x00\xff\xff"},
		{999999, "\x00\x0f\x42\x3f"},
		{1000000, "\x00\x0f\x42\x40"},
	} {
		both(t, effects.Record{Sleep: x.n}, "\x00\x00"+x.bytes+"\x00\x00\x00")
	}
	for _, n := range []int64{math.MinInt64, math.MinInt64 + 1, -1 << 32, -1000000, -1, 1000001, 1 << 24, 1 << 31, 1<<32 - 1, 1 << 32, 1<<32 + 1, math.MaxInt64} {
		refused(t, effects.Record{Sleep: n})
	}
	for _, s := range []string{"\x00\x0f\x42\x41", "\x00\x0f\x43\x00", "\x00\x10\x00\x00", "\x01\x00\x00\x00", "\x7f\xff\xff\xff", "\x80\x00\x00\x00", "\xff\xff\xff\xff"} {
		noRecord(t, "\x00\x00"+s+"\x00\x00\x00")
		noRecord(t, "\x00\x01\x02\x00"+s+"\x00\x00\x00")
	}
}

func TestCounts(t *testing.T) {
	const head = "\x00\x00\x00\x00\x00\x00"
	for n := range 256 {
		c := string([]byte{byte(n)})
		both(t, effects.Record{Puts: n}, head+c+"\x00\x00")
		both(t, effects.Record{Outs: n}, head+"\x00"+c+"\x00")
		both(t, effects.Record{Kids: n}, head+"\x00\x00"+c)
	}
	for _, n := range []int{math.MinInt, -1 << 32, -256, -255, -1, 256, 257, 511, 512, 1 << 32, 1<<32 + 1, math.MaxInt} {
		refused(t, effects.Record{Puts: n})
		refused(t, effects.Record{Outs: n})
		refused(t, effects.Record{Kids: n})
		refused(t, effects.Record{Puts: 255, Outs: n, Kids: 255})
	}
}

// TestByteAheadOfValue: it is 1 or 0, and what stands behind it goes with it.
func TestByteAheadOfValue(t *testing.T) {
	const rest = "\x00\x00\x00\x00\x00\x00\x00"
	for c := 2; c < 256; c++ {
		head := string([]byte{0, byte(c)})
		noRecord(t, head+rest)
		noRecord(t, head+"\x02\x02hi"+rest)
		noRecord(t, head+"\x01\x00\x00\x00\x00\x00\x00\x00\x05"+rest)
	}
	for _, x := range values {
		noRecord(t, "\x00\x00"+x.bytes+rest)
		noRecord(t, "\x00"+x.bytes+rest)
	}
	noRecord(t, "\x00\x01"+rest)
	noRecord(t, "\x00\x01\x00"+rest)
	for k := range 256 {
		if k == 1 || k == 2 {
			continue
		}
		head := string([]byte{0, 1, byte(k)})
		noRecord(t, head+rest)
		noRecord(t, head+"\x00"+rest)
		noRecord(t, head+"\x00\x00\x00\x00\x00\x00\x00\x05"+rest)
	}
	for n := 11; n < 256; n++ {
		head := string([]byte{0, 1, 2, byte(n)})
		noRecord(t, head+rest)
		noRecord(t, head+strings.Repeat("a", n)+rest)
	}
}

func TestBytesOfNoRecord(t *testing.T) {
	for _, s := range []string{"", "\x00", "\x00\x00", "a", strings.Repeat("\x00", 8), strings.Repeat("\x00", 10), strings.Repeat("\x00", 40), strings.Repeat("\x01", 1<<16)} {
		noRecord(t, s)
	}
}

// TestBytesAreTheirOwn: to write down another record changes nothing of one that was written down ahead of it.
func TestBytesAreTheirOwn(t *testing.T) {
	first, _ := effects.Write(effects.Record{End: api.Well, Value: text("one")})
	second, _ := effects.Write(effects.Record{End: api.Badly, Value: text("two")})
	if first != "\x01\x01\x02\x03one\x00\x00\x00\x00\x00\x00\x00" || second != "\x02\x01\x02\x03two\x00\x00\x00\x00\x00\x00\x00" {
		t.Errorf("%q and %q", first, second)
	}
}

func TestPieces(t *testing.T) {
	for _, x := range []struct {
		s    string
		n    int
		want []string
	}{
		{"", math.MinInt, nil},
		{"", -1, nil},
		{"", 0, nil},
		{"", 1, nil},
		{"", 3, nil},
		{"", math.MaxInt, nil},
		{"a", math.MinInt, []string{"a"}},
		{"a", -1, []string{"a"}},
		{"a", 0, []string{"a"}},
		{"a", 1, []string{"a"}},
		{"a", 2, []string{"a"}},
		{"a", math.MaxInt, []string{"a"}},
		{"abcde", math.MinInt, []string{"abcde"}},
		{"abcde", -1, []string{"abcde"}},
		{"abcde", 0, []string{"abcde"}},
		{"abcde", 1, []string{"a", "b", "c", "d", "e"}},
		{"abcde", 2, []string{"ab", "cd", "e"}},
		{"abcde", 3, []string{"abc", "de"}},
		{"abcde", 4, []string{"abcd", "e"}},
		{"abcde", 5, []string{"abcde"}},
		{"abcde", 6, []string{"abcde"}},
		{"abcde", math.MaxInt - 1, []string{"abcde"}},
		{"abcde", math.MaxInt, []string{"abcde"}},
		{"abcdef", 2, []string{"ab", "cd", "ef"}},
		{"abcdef", 3, []string{"abc", "def"}},
		{"\x00\xff\x00", 2, []string{"\x00\xff", "\x00"}},
		{"äö", 1, []string{"\xc3", "\xa4", "\xc3", "\xb6"}},
	} {
		got := effects.Pieces(x.s, x.n)
		if !slices.Equal(got, x.want) {
			t.Errorf("%q by %d: %q, not %q", x.s, x.n, got, x.want)
		}
		if s := effects.Whole(got); s != x.s {
			t.Errorf("%q by %d: %q again", x.s, x.n, s)
		}
	}
}

func TestWhole(t *testing.T) {
	for _, x := range []struct {
		l    []string
		want string
	}{
		{nil, ""},
		{[]string{}, ""},
		{[]string{""}, ""},
		{[]string{"", "", ""}, ""},
		{[]string{"a"}, "a"},
		{[]string{"", "a"}, "a"},
		{[]string{"a", ""}, "a"},
		{[]string{"ab", "", "c", "", "", "def"}, "abcdef"},
		{[]string{"b", "a"}, "ba"},
		{[]string{"\x00", "\xff", "\x00"}, "\x00\xff\x00"},
		{[]string{"\xc3", "\xa4"}, "ä"},
		{slices.Repeat([]string{"xy"}, 1000), strings.Repeat("xy", 1000)},
	} {
		kept := slices.Clone(x.l)
		if got := effects.Whole(x.l); got != x.want {
			t.Errorf("%q: %q, not %q", x.l, got, x.want)
		}
		if !slices.Equal(kept, x.l) {
			t.Errorf("%q became %q", kept, x.l)
		}
	}
}

// TestPiecesAreTheirOwn: each list of pieces is the caller's own.
func TestPiecesAreTheirOwn(t *testing.T) {
	const s = "abcde"
	first := effects.Pieces(s, 2)
	second := effects.Pieces(s, 2)
	first[0] = "x"
	clear(first[1:])
	if !slices.Equal(second, []string{"ab", "cd", "e"}) || !slices.Equal(effects.Pieces(s, 2), second) {
		t.Errorf("%q", second)
	}
}

// The calls end without a panic at every such argument: a panic would fail the test.
func TestEveryCallEnds(t *testing.T) {
	edges := []int{math.MinInt, math.MinInt + 1, math.MinInt32, -256, -1, 0, 1, 2, 3, 4, 9, 10, 255, 256, 1000000, 1000001, math.MaxInt32, math.MaxInt - 1, math.MaxInt}
	texts := []string{"", "\x00", "\x01", "\x02\xff", "\x00\x01\x02", "a", "0123456789", "01234567890", strings.Repeat("\x01", 300), strings.Repeat("\xff", 1<<16)}
	effects.Of(api.Effects{})
	effects.Whole(nil)
	effects.Whole(texts)
	for _, s := range texts {
		effects.Unvalue(s)
		effects.Read(s)
		for _, a := range edges {
			effects.Pieces(s, a)
			for _, b := range edges {
				v := api.Value{Kind: api.Kind(a), N: int64(b), S: s}
				effects.Value(v)
				effects.Of(api.Effects{End: a, Sleep: int64(b), Value: v})
				for _, x := range []api.Value{{}, num(1), v} {
					effects.Write(effects.Record{End: 1, Value: x, Sleep: int64(a), Puts: b})
					effects.Write(effects.Record{End: a, Value: x, Outs: a, Kids: b})
				}
			}
		}
	}
}
