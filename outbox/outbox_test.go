package outbox_test

import (
	"math"
	"strings"
	"testing"

	"factotum/api"
	"factotum/outbox"
)

func num(n int64) api.Value { return api.Value{Kind: api.Int, N: n} }

func text(s string) api.Value { return api.Value{Kind: api.Text, S: s} }

func message(seq, flow, step int, v api.Value) api.Message {
	return api.Message{Seq: seq, Flow: flow, Step: step, V: v}
}

// maxSeq is the greatest number of a message.
const maxSeq = 1<<31 - 1

// odd is numbers at the edges, and about them.
var odd = []int{
	math.MinInt, math.MinInt + 1, -1 << 32, -1<<31 - 1, -1 << 31, -65536, -256, -2, -1, 0, 1, 2, 3,
	255, 256, 257, 65535, 65536, 65537, 1<<24 - 1, 1 << 24, maxSeq - 1, maxSeq, maxSeq + 1,
	1<<32 - 1, 1 << 32, 1<<32 + 1, math.MaxInt - 1, math.MaxInt,
}

// values are those that a register may have, with their bytes.
var values = []struct {
	v     api.Value
	bytes string
}{
	{num(0), "\x01\x00\x00\x00\x00\x00\x00\x00\x00"},
	{num(5), "\x01\x00\x00\x00\x00\x00\x00\x00\x05"},
	{num(-1), "\x01\xff\xff\xff\xff\xff\xff\xff\xff"},
	{num(0x0102030405060708), "\x01\x01\x02\x03\x04\x05\x06\x07\x08"},
	{num(math.MaxInt64), "\x01\x7f\xff\xff\xff\xff\xff\xff\xff"},
	{num(math.MinInt64), "\x01\x80\x00\x00\x00\x00\x00\x00\x00"},
	{text(""), "\x02\x00"},
	{text("\x00"), "\x02\x01\x00"},
	{text("hi"), "\x02\x02hi"},
	{text("\xff\x00\xff"), "\x02\x03\xff\x00\xff"},
	{text("012345678"), "\x02\x09012345678"},
	{text("0123456789"), "\x02\x0a0123456789"},
	{text("\xff\xff\xff\xff\xff\xff\xff\xff\xff\xff"), "\x02\x0a\xff\xff\xff\xff\xff\xff\xff\xff\xff\xff"},
}

// wrongValues are those that no register may have.
var wrongValues = []api.Value{
	{},
	{N: 1},
	{S: "a"},
	{Kind: -1},
	{Kind: 3},
	{Kind: 3, N: 1},
	{Kind: 255},
	{Kind: 256},
	{Kind: 257},
	{Kind: 258, S: "a"},
	{Kind: math.MinInt},
	{Kind: math.MaxInt},
	{Kind: api.Int, S: "a"},
	{Kind: api.Int, N: 1, S: "\x00"},
	{Kind: api.Text, N: 1},
	{Kind: api.Text, N: -1, S: "a"},
	text("01234567890"),
	text(strings.Repeat("\x00", 11)),
	text(strings.Repeat("a", 256)),
	text(strings.Repeat("a", 266)),
	text(strings.Repeat("a", 1<<16)),
}

// both checks that a message has this key and these bytes, and they are this message's.
func both(t *testing.T, m api.Message, key, rest string) {
	t.Helper()
	if k, r, e := outbox.Write(m); k != key || r != rest || e != api.OK {
		t.Errorf("%v: %q and %q, error %d, not %q and %q", m, k, r, e, key, rest)
	}
	if got, e := outbox.Read(key, rest); got != m || e != api.OK {
		t.Errorf("%q and %q: %v, error %d, not %v", key, rest, got, e, m)
	}
}

// refused checks that a message may not be.
func refused(t *testing.T, m api.Message) {
	t.Helper()
	if k, r, e := outbox.Write(m); k != "" || r != "" || e != api.ErrField {
		t.Errorf("%v: %q and %q, error %d", m, k, r, e)
	}
}

// noMessage checks that a key and bytes are no message's.
func noMessage(t *testing.T, key, rest string) {
	t.Helper()
	if m, e := outbox.Read(key, rest); m != (api.Message{}) || e != api.ErrCorrupt {
		t.Errorf("%q and %q: %v, error %d", key, rest, m, e)
	}
}

func TestSeqs(t *testing.T) {
	const rest = "\x00\x03\x07\x02\x02hi"
	for _, x := range []struct {
		seq int
		key string
	}{
		{1, "\x00\x00\x00\x01"},
		{2, "\x00\x00\x00\x02"},
		{255, "\x00\x00\x00\xff"},
		{256, "\x00\x00\x01\x00"},
		{258, "\x00\x00\x01\x02"},
		{65536, "\x00\x01\x00\x00"},
		{0x01020304, "\x01\x02\x03\x04"},
		{maxSeq - 1, "\x7f\xff\xff\xfe"},
		{maxSeq, "\x7f\xff\xff\xff"},
	} {
		both(t, message(x.seq, 3, 7, text("hi")), x.key, rest)
	}
	for _, n := range odd {
		if n < 1 || n > maxSeq {
			refused(t, message(n, 3, 7, text("hi")))
		}
	}
	for _, key := range []string{
		"\x00\x00\x00\x00", "\x80\x00\x00\x00", "\x80\x00\x00\x01", "\xff\xff\xff\xff", "\xff\x00\x00\x00",
		"", "\x00", "\x01", "\x01\x02", "\x01\x02\x03", "\x00\x00\x01", "\x00\x00\x00\x00\x01", "\x01\x02\x03\x04\x05",
		"\x00\x00\x00\x01\x00", "\x00\x00\x00\x00\x00\x00\x00\x01", rest, strings.Repeat("\x01", 1<<16),
	} {
		noMessage(t, key, rest)
	}
}

func TestFlowsAndSteps(t *testing.T) {
	for _, x := range []struct {
		n     int
		bytes string
	}{
		{0, "\x00\x00"}, {1, "\x00\x01"}, {255, "\x00\xff"}, {256, "\x01\x00"}, {0x0102, "\x01\x02"}, {65534, "\xff\xfe"}, {65535, "\xff\xff"},
	} {
		both(t, message(1, x.n, 7, num(5)), "\x00\x00\x00\x01", x.bytes+"\x07\x01\x00\x00\x00\x00\x00\x00\x00\x05")
	}
	for n := range 256 {
		both(t, message(1, 7, n, num(5)), "\x00\x00\x00\x01", "\x00\x07"+string([]byte{byte(n)})+"\x01\x00\x00\x00\x00\x00\x00\x00\x05")
	}
	for _, n := range odd {
		if n < 0 || n > 65535 {
			refused(t, message(1, n, 0, num(5)))
		}
		if n < 0 || n > 255 {
			refused(t, message(1, 0, n, num(5)))
		}
	}
}

func TestValues(t *testing.T) {
	for _, x := range values {
		both(t, message(1, 0, 0, x.v), "\x00\x00\x00\x01", "\x00\x00\x00"+x.bytes)
		both(t, message(maxSeq, 65535, 255, x.v), "\x7f\xff\xff\xff", "\xff\xff\xff"+x.bytes)
	}
	for _, v := range wrongValues {
		refused(t, message(1, 0, 0, v))
		refused(t, message(maxSeq, 65535, 255, v))
		refused(t, message(0, 0, 0, v))
		refused(t, message(1, -1, 0, v))
		refused(t, message(1, 0, 256, v))
	}
	refused(t, api.Message{})
}

// TestBytesBesideWritten: neither a beginning of a message's bytes is any's, nor they with a byte more, ahead or behind.
func TestBytesBesideWritten(t *testing.T) {
	for _, x := range values {
		key, rest, e := outbox.Write(message(0x01020304, 0x0506, 7, x.v))
		if e != api.OK {
			t.Fatal(e)
		}
		for k := range len(key) {
			noMessage(t, key[:k], rest)
			noMessage(t, key[k+1:], rest)
		}
		for k := range len(rest) {
			noMessage(t, key, rest[:k])
		}
		for c := range 256 {
			b := string([]byte{byte(c)})
			noMessage(t, key+b, rest)
			noMessage(t, b+key, rest)
			noMessage(t, key, rest+b)
		}
		noMessage(t, rest, key)
		noMessage(t, key+rest, "")
		noMessage(t, "", key+rest)
		noMessage(t, key, key+rest)
		noMessage(t, key+key, rest)
		noMessage(t, key, rest+rest)
		noMessage(t, "", "")
	}
}

func TestBytesOfNoValue(t *testing.T) {
	const key, head = "\x00\x00\x00\x01", "\x00\x03\x07"
	for k := range 256 {
		kind := string([]byte{byte(k)})
		noMessage(t, key, head+kind)
		if k == int(api.Int) || k == int(api.Text) {
			continue
		}
		for _, more := range []string{"\x00", "\x01a", "\x00\x00\x00\x00\x00\x00\x00\x05", "\x0a0123456789"} {
			noMessage(t, key, head+kind+more)
		}
	}
	for n := 11; n < 256; n++ {
		long := head + "\x02" + string([]byte{byte(n)})
		noMessage(t, key, long)
		noMessage(t, key, long+"0123456789")
		noMessage(t, key, long+strings.Repeat("a", n))
	}
	noMessage(t, key, strings.Repeat("\x00", 16))
	noMessage(t, key, strings.Repeat("\x01", 1<<16))
	noMessage(t, key, strings.Repeat("\x02", 1<<16))
}

// second is a second reading of the chapter: the message that a key and bytes are.
func second(key, rest string) (api.Message, bool) {
	if len(key) != 4 || len(rest) < 5 || key[0] >= 128 || key == "\x00\x00\x00\x00" {
		return api.Message{}, false
	}
	m := api.Message{
		Seq:  int(key[0])<<24 + int(key[1])<<16 + int(key[2])<<8 + int(key[3]),
		Flow: int(rest[0])*256 + int(rest[1]),
		Step: int(rest[2]),
	}
	switch {
	case rest[3] == 1 && len(rest) == 12:
		var n uint64
		for _, c := range []byte(rest[4:]) {
			n = n*256 + uint64(c)
		}
		m.V = num(int64(n))
	case rest[3] == 2 && rest[4] <= 10 && len(rest) == 5+int(rest[4]):
		m.V = text(rest[5:])
	default:
		return api.Message{}, false
	}
	return m, true
}

// wantSecond holds Read against the second reading, and what is a message against Write; it says whether it is one.
func wantSecond(t *testing.T, key, rest string) bool {
	t.Helper()
	m, ok := second(key, rest)
	if ok {
		both(t, m, key, rest)
	} else {
		noMessage(t, key, rest)
	}
	return ok
}

// TestEachByte holds what was written, with each byte changed to each other one, against the second reading.
func TestEachByte(t *testing.T) {
	met := map[bool]int{}
	for _, x := range values {
		key, rest, _ := outbox.Write(message(0x00000100, 0x0203, 4, x.v))
		both := key + rest
		for k := range len(both) {
			for c := range 256 {
				b := []byte(both)
				b[k] = byte(c)
				met[wantSecond(t, string(b[:4]), string(b[4:]))]++
			}
		}
	}
	if met[true] < 5000 || met[false] < 5000 {
		t.Error("met", met)
	}
}

// TestDrawnMessages holds drawn messages, those that may not be among them, against the second reading.
func TestDrawnMessages(t *testing.T) {
	met := map[bool]int{}
	d := draws(1)
	for range 20000 {
		m := message(d.number(maxSeq), d.number(65535), d.number(255), d.value())
		may := m.Seq >= 1 && m.Seq <= maxSeq && mayAdd(m.Flow, m.Step, m.V)
		met[may]++
		if !may {
			refused(t, m)
			continue
		}
		key, rest, e := outbox.Write(m)
		if got, ok := second(key, rest); !ok || got != m || e != api.OK {
			t.Errorf("%v: %q and %q, error %d, which are %v", m, key, rest, e, got)
		}
		both(t, m, key, rest)
	}
	if met[true] < 1000 || met[false] < 1000 {
		t.Error("met", met)
	}
}

// TestDrawnBytes holds Read of drawn bytes against the second reading.
func TestDrawnBytes(t *testing.T) {
	met := map[bool]int{}
	d := draws(2)
	for range 50000 {
		key := d.bytes(4 + d.below(8)/7)
		head := d.bytes(3)
		v := d.bytes(d.below(12))
		switch d.below(4) {
		case 0:
			v = "\x01" + d.bytes(7+d.below(3))
		case 1:
			n := d.below(13)
			v = "\x02" + string([]byte{byte(n)}) + d.bytes(max(0, n+d.below(3)-1))
		}
		met[wantSecond(t, key, head+v)]++
	}
	if met[true] < 1000 || met[false] < 1000 {
		t.Error("met", met)
	}
}

// TestKeysInOrder: keys are ordered as their messages' numbers are.
func TestKeysInOrder(t *testing.T) {
	last := ""
	for _, n := range odd {
		if n < 1 || n > maxSeq {
			continue
		}
		key, _, e := outbox.Write(message(n, 1, 1, num(1)))
		if e != api.OK || key <= last || len(key) != 4 {
			t.Error(n, key, e)
		}
		last = key
	}
}

// TestSeqIsntInRest: of messages that differ by their Seq alone only the keys differ, and else only the bytes.
func TestSeqIsntInRest(t *testing.T) {
	key, rest, _ := outbox.Write(message(1, 2, 3, num(4)))
	for _, m := range []api.Message{message(2, 2, 3, num(4)), message(maxSeq, 2, 3, num(4))} {
		if k, r, e := outbox.Write(m); k == key || r != rest || e != api.OK {
			t.Errorf("%v: %q and %q, error %d", m, k, r, e)
		}
	}
	for _, m := range []api.Message{message(1, 1, 3, num(4)), message(1, 2, 1, num(4)), message(1, 2, 3, num(1))} {
		if k, r, e := outbox.Write(m); k != key || r == rest || e != api.OK {
			t.Errorf("%v: %q and %q, error %d", m, k, r, e)
		}
	}
}
