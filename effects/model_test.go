package effects_test

import (
	"encoding/binary"
	"math"
	"slices"
	"strings"
	"testing"

	"factotum/api"
	"factotum/check"
	"factotum/effects"
	"factotum/machine"
)

// draws is a row of numbers that look drawn, the same ones each time.
type draws uint64

func (d *draws) next() uint64 {
	*d = *d*6364136223846793005 + 1442695040888963407
	x := uint64(*d)
	return (x ^ x>>29) * 0xbf58476d1ce4e5b9 >> 16
}

func (d *draws) below(n int) int { return int(d.next() % uint64(n)) }

func (d *draws) bytes(n int) string {
	b := make([]byte, n)
	for k := range b {
		b[k] = byte(d.below(256))
	}
	return string(b)
}

func (d *draws) char() string { return d.bytes(1) }

// value is one that a register may have.
func (d *draws) value() api.Value {
	if d.below(2) == 0 {
		return num(int64(d.next()<<32 ^ d.next()))
	}
	return text(d.bytes(d.below(11)))
}

// record is one that may be.
func (d *draws) record() effects.Record {
	r := effects.Record{End: d.below(4), Puts: d.below(256), Outs: d.below(256), Kids: d.below(256)}
	if d.below(3) > 0 {
		r.Value = d.value()
	}
	if d.below(2) == 0 {
		r.Sleep = int64(d.below(1000001))
	}
	return r
}

// spoil changes one field of a record, so that it may still be or not.
func (d *draws) spoil(r *effects.Record) {
	odd := []int{math.MinInt, -1, 0, 1, 2, 3, 4, 255, 256, 257, 1000000, 1000001, 1 << 32, math.MaxInt}
	o := odd[d.below(len(odd))]
	switch d.below(8) {
	case 0:
		r.End = o
	case 1:
		r.Value.Kind = api.Kind(o)
	case 2:
		r.Value.N = int64(o)
	case 3:
		r.Value.S = d.bytes(d.below(13))
	case 4:
		r.Sleep = int64(o)
	case 5:
		r.Puts = o
	case 6:
		r.Outs = o
	case 7:
		r.Kids = o
	}
}

// plainValue is a second reading of Value.
func plainValue(v api.Value) (string, api.Errno) {
	switch {
	case v.Kind == 1 && v.S == "":
		return "\x01" + string(binary.BigEndian.AppendUint64(nil, uint64(v.N))), api.OK
	case v.Kind == 2 && v.N == 0 && len(v.S) <= 10:
		return "\x02" + string([]byte{byte(len(v.S))}) + v.S, api.OK
	}
	return "", api.ErrKind
}

// plainBegins is the value at the beginning of s, and how many bytes it has; 0: there is none.
func plainBegins(s string) (api.Value, int) {
	switch {
	case len(s) >= 9 && s[0] == 1:
		return num(int64(binary.BigEndian.Uint64([]byte(s[1:9])))), 9
	case len(s) >= 2 && s[0] == 2 && s[1] <= 10 && len(s) >= 2+int(s[1]):
		n := 2 + int(s[1])
		return text(s[2:n]), n
	}
	return api.Value{}, 0
}

// plainUnvalue is a second reading of Unvalue.
func plainUnvalue(s string) (api.Value, api.Errno) {
	v, n := plainBegins(s)
	if n == 0 || n != len(s) {
		return api.Value{}, api.ErrCorrupt
	}
	return v, api.OK
}

// plainWrite is a second reading of Write.
func plainWrite(r effects.Record) (string, api.Errno) {
	value := "\x00"
	if (r.Value != api.Value{}) {
		s, e := plainValue(r.Value)
		if e != api.OK {
			return "", api.ErrField
		}
		value = "\x01" + s
	}
	for _, x := range [][2]int64{{int64(r.End), 3}, {r.Sleep, 1000000}, {int64(r.Puts), 255}, {int64(r.Outs), 255}, {int64(r.Kids), 255}} {
		if x[0] < 0 || x[0] > x[1] {
			return "", api.ErrField
		}
	}
	b := append([]byte{byte(r.End)}, value...)
	b = append(b, byte(r.Sleep>>24), byte(r.Sleep>>16), byte(r.Sleep>>8), byte(r.Sleep))
	return string(append(b, byte(r.Puts), byte(r.Outs), byte(r.Kids))), api.OK
}

// plainRead is a second reading of Read, by places in the bytes.
func plainRead(s string) (effects.Record, api.Errno) {
	var none effects.Record
	if len(s) < 9 || s[0] > 3 || s[1] > 1 {
		return none, api.ErrCorrupt
	}
	r, at := effects.Record{End: int(s[0])}, 2
	if s[1] == 1 {
		v, n := plainBegins(s[2:])
		if n == 0 {
			return none, api.ErrCorrupt
		}
		r.Value = v
		at += n
	}
	rest := s[at:]
	if len(rest) != 7 {
		return none, api.ErrCorrupt
	}
	r.Sleep = int64(rest[0])<<24 | int64(rest[1])<<16 | int64(rest[2])<<8 | int64(rest[3])
	if r.Sleep > 1000000 {
		return none, api.ErrCorrupt
	}
	r.Puts, r.Outs, r.Kids = int(rest[4]), int(rest[5]), int(rest[6])
	return r, api.OK
}

// holdValue holds Value against its second reading, and what was written against what is read.
func holdValue(t *testing.T, v api.Value) api.Errno {
	t.Helper()
	want, wantErr := plainValue(v)
	s, e := effects.Value(v)
	if s != want || e != wantErr {
		t.Fatalf("%v: %q, error %d, not %q, %d", v, s, e, want, wantErr)
	}
	if e == api.OK {
		if again, e := effects.Unvalue(s); again != v || e != api.OK {
			t.Fatalf("%v: read as %v, error %d", v, again, e)
		}
	}
	return e
}

// holdUnvalue holds Unvalue against its second reading, and what was read against what is written.
func holdUnvalue(t *testing.T, s string) api.Errno {
	t.Helper()
	want, wantErr := plainUnvalue(s)
	v, e := effects.Unvalue(s)
	if v != want || e != wantErr {
		t.Fatalf("%q: %v, error %d, not %v, %d", s, v, e, want, wantErr)
	}
	if e == api.OK {
		if again, e := effects.Value(v); again != s || e != api.OK {
			t.Fatalf("%q: written as %q, error %d", s, again, e)
		}
	}
	return e
}

// holdWrite holds Write against its second reading and how many bytes there may be, and what was written against what is read.
func holdWrite(t *testing.T, r effects.Record) api.Errno {
	t.Helper()
	want, wantErr := plainWrite(r)
	s, e := effects.Write(r)
	if s != want || e != wantErr {
		t.Fatalf("%v: %q, error %d, not %q, %d", r, s, e, want, wantErr)
	}
	if len(s) > api.MaxValue {
		t.Fatalf("%v: %d bytes", r, len(s))
	}
	if e == api.OK {
		if again, e := effects.Read(s); again != r || e != api.OK {
			t.Fatalf("%v: read as %v, error %d", r, again, e)
		}
	}
	return e
}

// holdRead holds Read against its second reading, and what was read against what is written.
func holdRead(t *testing.T, s string) api.Errno {
	t.Helper()
	want, wantErr := plainRead(s)
	r, e := effects.Read(s)
	if r != want || e != wantErr {
		t.Fatalf("%q: %v, error %d, not %v, %d", s, r, e, want, wantErr)
	}
	if e == api.OK {
		if again, e := effects.Write(r); again != s || e != api.OK {
			t.Fatalf("%q: written as %q, error %d", s, again, e)
		}
	}
	return e
}

// seen checks that drawn things came to all that a call may answer.
func seen(t *testing.T, counts map[api.Errno]int, want ...api.Errno) {
	t.Helper()
	for _, e := range want {
		if counts[e] < 50 {
			t.Errorf("error %d only %d times", e, counts[e])
		}
	}
}

// oneStepAway is all bytes that come of s by one byte changed, put in or taken out.
func oneStepAway(s string, f func(s string)) {
	for k := range len(s) + 1 {
		for c := range 256 {
			x := string([]byte{byte(c)})
			f(s[:k] + x + s[k:])
			if k < len(s) {
				f(s[:k] + x + s[k+1:])
			}
		}
		if k < len(s) {
			f(s[:k] + s[k+1:])
		}
	}
}

func TestDrawnValues(t *testing.T) {
	d := draws(1)
	counts := map[api.Errno]int{}
	for range 20000 {
		r := effects.Record{Value: d.value()}
		counts[holdValue(t, r.Value)]++
		d.spoil(&r)
		counts[holdValue(t, r.Value)]++
	}
	seen(t, counts, api.OK, api.ErrKind)
}

func TestValuesOneStepAway(t *testing.T) {
	counts := map[api.Errno]int{}
	for _, x := range values {
		oneStepAway(x.bytes, func(s string) { counts[holdUnvalue(t, s)]++ })
	}
	seen(t, counts, api.OK, api.ErrCorrupt)
}

// TestShortBytes: all bytes of up to two, and all of up to five that stand at edges.
func TestShortBytes(t *testing.T) {
	counts := map[api.Errno]int{}
	for a := range 256 {
		for b := range 256 {
			s := string([]byte{byte(a), byte(b)})
			counts[holdUnvalue(t, s)]++
			holdRead(t, s)
			holdRead(t, s[:1])
		}
		holdUnvalue(t, string([]byte{byte(a)}))
	}
	edges := "\x00\x01\x02\x03\x04\x0a\x0b\x0f\x10\xff"
	level := []string{""}
	for range 5 {
		var next []string
		for _, s := range level {
			for k := range len(edges) {
				x := s + edges[k:k+1]
				counts[holdUnvalue(t, x)]++
				holdRead(t, x)
				next = append(next, x)
			}
		}
		level = next
	}
	seen(t, counts, api.OK, api.ErrCorrupt)
}

// TestAllEdges: all records of edges that may be, and some that may not.
func TestAllEdges(t *testing.T) {
	all := []api.Value{{}, {N: 1}, {S: "a"}, {Kind: 3}, {Kind: api.Int, S: "a"}, {Kind: api.Text, N: 1}, text("01234567890")}
	for _, x := range values {
		all = append(all, x.v)
	}
	few := []int{-1, 0, 1, 255, 256}
	counts := map[api.Errno]int{}
	most := 0
	for end := -1; end <= 4; end++ {
		for _, v := range all {
			for _, sleep := range []int64{-1, 0, 1, 1000000, 1000001} {
				for _, p := range few {
					for _, o := range few {
						for _, k := range few {
							r := effects.Record{End: end, Value: v, Sleep: sleep, Puts: p, Outs: o, Kids: k}
							counts[holdWrite(t, r)]++
							s, _ := effects.Write(r)
							most = max(most, len(s))
						}
					}
				}
			}
		}
	}
	seen(t, counts, api.OK, api.ErrField)
	if most != 21 {
		t.Errorf("the longest one has %d bytes", most)
	}
}

func TestDrawnRecords(t *testing.T) {
	d := draws(2)
	counts := map[api.Errno]int{}
	for range 50000 {
		r := d.record()
		if e := holdWrite(t, r); e != api.OK {
			t.Fatalf("%v: error %d", r, e)
		}
		for range 1 + d.below(2) {
			d.spoil(&r)
		}
		counts[holdWrite(t, r)]++
	}
	seen(t, counts, api.OK, api.ErrField)
}

func TestRecordsOneStepAway(t *testing.T) {
	d := draws(3)
	l := []effects.Record{{}, {End: 3}, {End: 1, Value: num(5)}, {Value: text("")}, {Sleep: 1000000, Puts: 8, Outs: 4, Kids: 2}, {End: 2, Value: text("0123456789"), Sleep: 999999}}
	for range 30 {
		l = append(l, d.record())
	}
	counts := map[api.Errno]int{}
	for _, r := range l {
		s, _ := plainWrite(r)
		oneStepAway(s, func(x string) { counts[holdRead(t, x)]++ })
	}
	seen(t, counts, api.OK, api.ErrCorrupt)
}

// TestChangedRecords: bytes of records, cut, with others behind, and with a few changed.
func TestChangedRecords(t *testing.T) {
	d := draws(4)
	counts := map[api.Errno]int{}
	for range 20000 {
		s, _ := plainWrite(d.record())
		k, j := d.below(len(s)), d.below(len(s))
		x := s[:k] + d.char() + s[k+1:]
		for _, x := range []string{s, s[:k], s[k:], s + s, s + d.bytes(d.below(20)), x, x[:j] + d.char() + x[j+1:], s[:k] + s[j:]} {
			counts[holdRead(t, x)]++
		}
	}
	seen(t, counts, api.OK, api.ErrCorrupt)
}

// TestDrawnBytes: bytes that mostly are small, so that many are somebody's.
func TestDrawnBytes(t *testing.T) {
	d := draws(5)
	recordErrs, valueErrs := map[api.Errno]int{}, map[api.Errno]int{}
	for range 300000 {
		b := []byte(d.bytes(d.below(23)))
		for k := range b {
			if d.below(8) > 0 {
				b[k] %= 3
			}
		}
		recordErrs[holdRead(t, string(b))]++
		valueErrs[holdUnvalue(t, string(b))]++
	}
	seen(t, recordErrs, api.OK, api.ErrCorrupt)
	seen(t, valueErrs, api.OK, api.ErrCorrupt)
}

// TestPiecesOfDrawn: all pieces have n bytes but the last one, which has 1 to n, and together they are the bytes.
func TestPiecesOfDrawn(t *testing.T) {
	d := draws(6)
	for range 5000 {
		s := d.bytes(d.below(100))
		for _, n := range []int{math.MinInt, -1, 0, 1, 2, 1 + d.below(110), len(s) - 1, len(s), len(s) + 1, math.MaxInt} {
			holdPieces(t, s, n)
		}
	}
	holdPieces(t, strings.Repeat("0123456789", 5000), 7)
}

func holdPieces(t *testing.T, s string, n int) {
	t.Helper()
	l := effects.Pieces(s, n)
	size := n
	if n < 1 {
		size = len(s)
	}
	for k, p := range l {
		last := k == len(l)-1
		if len(p) < 1 || len(p) > size || !last && len(p) != size {
			t.Fatalf("%q by %d: piece %d is %q", s, n, k, p)
		}
	}
	if strings.Join(l, "") != s || effects.Whole(l) != s {
		t.Fatalf("%q by %d: %q", s, n, l)
	}
}

// TestWholeOfDrawn: any pieces, empty ones among them, one behind the other.
func TestWholeOfDrawn(t *testing.T) {
	d := draws(7)
	for range 5000 {
		var l []string
		var b []byte
		for range d.below(10) {
			p := d.bytes(max(0, d.below(8)-3))
			l = append(l, p)
			b = append(b, p...)
		}
		if got := effects.Whole(l); got != string(b) {
			t.Fatalf("%q: %q", l, got)
		}
	}
}

// inst is an instruction, mostly one that a program may have.
func (d *draws) inst(most int) api.Inst {
	i := api.Inst{Op: 1 + d.below(19), A: d.below(api.Regs), B: d.below(api.Regs), C: d.below(api.Regs)}
	switch i.Op {
	case api.Const:
		i.B, i.C, i.V = 0, 0, num(int64(d.below(300)))
		if d.below(3) == 0 {
			i.V = d.value()
		}
	case api.Move, api.Load, api.Store:
		i.C = 0
	case api.Unless:
		i.A, i.C = d.below(most), 0
	case api.Jump:
		i = api.Inst{Op: i.Op, A: d.below(most)}
	case api.Drop, api.Emit, api.Sleep, api.Done, api.Fail:
		i.B, i.C = 0, 0
	case api.Step:
		i = api.Inst{Op: i.Op}
	}
	return i
}

// TestRecordsOfSteps: what a step does may always be written down, and its record is read again.
func TestRecordsOfSteps(t *testing.T) {
	d := draws(8)
	ends := map[int]int{}
	for range 30000 {
		var l []api.Inst
		n := 1 + d.below(30)
		for range n {
			l = append(l, d.inst(n+1))
		}
		l = append(l, api.Inst{Op: api.Done})
		if e, k := check.Check(l); e != api.OK {
			t.Fatalf("%v: error %d at %d", l, e, k)
		}
		x, e := machine.Run(l, machine.First(d.value()), nil)
		if e != api.OK {
			t.Fatalf("%v: error %d", l, e)
		}
		want := effects.Record{End: x.End, Value: x.Value, Sleep: x.Sleep, Puts: len(x.Puts), Outs: len(x.Outs), Kids: len(x.Kids)}
		if r := effects.Of(x); r != want || holdWrite(t, r) != api.OK {
			t.Fatalf("%v: %v, not %v", x, r, want)
		}
		ends[x.End]++
	}
	for _, end := range []int{api.Goes, api.Well, api.Badly, api.Spent} {
		if ends[end] < 50 {
			t.Errorf("only %d steps that end with %d", ends[end], end)
		}
	}
}

// TestOrderOfCalls: what a call answers hangs on its arguments alone, whatever was asked ahead of it.
func TestOrderOfCalls(t *testing.T) {
	d := draws(9)
	var l []effects.Record
	var first []string
	for range 200 {
		r := d.record()
		s, _ := effects.Write(r)
		l, first = append(l, r), append(first, s)
	}
	for k, r := range slices.Backward(l) {
		effects.Read(first[k][1:])
		effects.Write(effects.Record{End: -1})
		if s, e := effects.Write(r); s != first[k] || e != api.OK {
			t.Fatalf("%v: %q, error %d, not %q", r, s, e, first[k])
		}
	}
}
