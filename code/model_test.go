package code_test

import (
	"encoding/binary"
	"math"
	"slices"
	"strings"
	"testing"

	"factotum/api"
	"factotum/code"
)

// draws is a row of numbers that look drawn, the same ones each time.
type draws uint64

func (d *draws) next() uint64 {
	*d = *d*6364136223846793005 + 1442695040888963407
	x := uint64(*d)
	return (x ^ x>>29) * 0xbf58476d1ce4e5b9 >> 16
}

func (d *draws) below(n int) int { return int(d.next() % uint64(n)) }

// inst is an instruction that may be.
func (d *draws) inst() api.Inst {
	i := api.Inst{Op: 1 + d.below(19)}
	for _, name := range ops[i.Op].has {
		*field(&i, name) = d.below(256)
	}
	if i.Op == api.Const {
		i.V = d.value()
	}
	return i
}

func (d *draws) value() api.Value {
	if d.below(2) == 0 {
		return num(int64(d.next()<<32 ^ d.next()))
	}
	b := make([]byte, d.below(11))
	for k := range b {
		b[k] = byte(d.below(256))
	}
	return text(string(b))
}

func (d *draws) program() []api.Inst {
	var l []api.Inst
	for range d.below(67) {
		l = append(l, d.inst())
	}
	return l
}

// spoil changes one field of an instruction, so that it may still be or not.
func (d *draws) spoil(i *api.Inst) {
	odd := []int{-1, 0, 1, 2, 3, 19, 20, 255, 256, 257, math.MinInt, math.MaxInt}
	o := odd[d.below(len(odd))]
	switch d.below(7) {
	case 0:
		i.Op = o
	case 1, 2, 3:
		*field(i, rune("ABC"[d.below(3)])) = o
	case 4:
		i.V.Kind = api.Kind(o)
	case 5:
		i.V.N = int64(o)
	case 6:
		i.V.S = strings.Repeat("x", d.below(13))
	}
}

// right is a second reading of which instruction may be.
func right(i api.Inst) bool {
	if i.Op < 1 || i.Op > 19 {
		return false
	}
	for _, name := range "ABC" {
		o, most := *field(&i, name), 0
		if strings.ContainsRune(ops[i.Op].has, name) {
			most = 255
		}
		if o < 0 || o > most {
			return false
		}
	}
	switch {
	case i.Op != 1:
		return i.V == api.Value{}
	case i.V.Kind == 1:
		return i.V.S == ""
	}
	return i.V.Kind == 2 && i.V.N == 0 && len(i.V.S) <= 10
}

// plainWrite is a second reading of Write.
func plainWrite(l []api.Inst) (string, api.Errno) {
	if len(l) > 64 {
		return "", api.ErrLong
	}
	if slices.ContainsFunc(l, func(i api.Inst) bool { return !right(i) }) {
		return "", api.ErrField
	}
	var b []byte
	for _, i := range l {
		b = append(b, byte(i.Op))
		for _, name := range ops[i.Op].has {
			b = append(b, byte(*field(&i, name)))
		}
		switch i.V.Kind {
		case 1:
			b = append(b, 1)
			b = binary.BigEndian.AppendUint64(b, uint64(i.V.N))
		case 2:
			b = append(b, 2, byte(len(i.V.S)))
			b = append(b, i.V.S...)
		}
	}
	return string(b), api.OK
}

// plainRead is a second reading of Read, by places in the bytes.
func plainRead(s string) ([]api.Inst, api.Errno) {
	var l []api.Inst
	for at := 0; at < len(s); {
		if len(l) == 64 {
			return nil, api.ErrLong
		}
		i := api.Inst{Op: int(s[at])}
		if i.Op < 1 || i.Op > 19 {
			return nil, api.ErrField
		}
		at++
		for _, name := range ops[i.Op].has {
			if at == len(s) {
				return nil, api.ErrShort
			}
			*field(&i, name) = int(s[at])
			at++
		}
		if i.Op == 1 {
			v, n, e := plainValue(s[at:])
			if e != api.OK {
				return nil, e
			}
			i.V = v
			at += n
		}
		l = append(l, i)
	}
	return l, api.OK
}

// plainValue is the value at the beginning of s, and how many bytes it has.
func plainValue(s string) (api.Value, int, api.Errno) {
	var none api.Value
	switch {
	case len(s) == 0:
		return none, 0, api.ErrShort
	case s[0] == 1 && len(s) < 9:
		return none, 0, api.ErrShort
	case s[0] == 1:
		return num(int64(binary.BigEndian.Uint64([]byte(s[1:9])))), 9, api.OK
	case s[0] != 2:
		return none, 0, api.ErrField
	case len(s) == 1:
		return none, 0, api.ErrShort
	case s[1] > 10:
		return none, 0, api.ErrLong
	case len(s) < 2+int(s[1]):
		return none, 0, api.ErrShort
	}
	n := 2 + int(s[1])
	return text(s[2:n]), n, api.OK
}

// holdWrite holds Write against its second reading, and what was written against what is read.
func holdWrite(t *testing.T, l []api.Inst) api.Errno {
	t.Helper()
	want, wantErr := plainWrite(l)
	s, e := code.Write(l)
	if s != want || e != wantErr {
		t.Fatalf("%v: %q, error %d, not %q, %d", l, s, e, want, wantErr)
	}
	if e == api.OK {
		if m, e := code.Read(s); e != api.OK || !slices.Equal(m, l) || !code.Same(m, l) {
			t.Fatalf("%v: read as %v, error %d", l, m, e)
		}
	}
	return e
}

// holdRead holds Read against its second reading, and what was read against what is written.
func holdRead(t *testing.T, s string) api.Errno {
	t.Helper()
	want, wantErr := plainRead(s)
	l, e := code.Read(s)
	if !slices.Equal(l, want) || e != wantErr {
		t.Fatalf("%q: %v, error %d, not %v, %d", s, l, e, want, wantErr)
	}
	if e == api.OK {
		if again, e := code.Write(l); e != api.OK || again != s {
			t.Fatalf("%q: written as %q, error %d", s, again, e)
		}
	}
	return e
}

// seen checks that drawn things came to all that a call may answer.
func seen(t *testing.T, counts map[api.Errno]int, want ...api.Errno) {
	t.Helper()
	for _, e := range want {
		if counts[e] < 50 {
			t.Errorf("error %d only %d times", e, counts[e])
		}
	}
}

func TestDrawnPrograms(t *testing.T) {
	d := draws(1)
	counts := map[api.Errno]int{}
	for range 20000 {
		l := d.program()
		counts[holdWrite(t, l)]++
		if len(l) > 0 {
			d.spoil(&l[d.below(len(l))])
			counts[holdWrite(t, l)]++
		}
	}
	seen(t, counts, api.OK, api.ErrLong, api.ErrField)
}

// TestChangedBytes: bytes of programs, cut, with a byte changed, put in or taken out.
func TestChangedBytes(t *testing.T) {
	d := draws(2)
	counts := map[api.Errno]int{}
	for range 20000 {
		s, e := plainWrite(d.program())
		if e != api.OK || s == "" {
			continue
		}
		k := d.below(len(s))
		c := string([]byte{byte(d.below(256))})
		for _, x := range []string{s, s[:k], s[k:], s[:k] + c + s[k+1:], s[:k] + c + s[k:], s[:k] + s[k+1:], s + c, s + s} {
			counts[holdRead(t, x)]++
		}
	}
	seen(t, counts, api.OK, api.ErrShort, api.ErrField, api.ErrLong)
}

// TestDrawnBytes: bytes that mostly are Ops, kinds and short lengths, so that many go on for long.
func TestDrawnBytes(t *testing.T) {
	d := draws(3)
	counts := map[api.Errno]int{}
	for range 100000 {
		b := make([]byte, d.below(200))
		for k := range b {
			b[k] = byte(1 + d.below(19))
			if d.below(60) == 0 {
				b[k] = byte(d.below(256))
			}
		}
		counts[holdRead(t, string(b))]++
	}
	seen(t, counts, api.OK, api.ErrShort, api.ErrField, api.ErrLong)
}

// TestShortBytes: all bytes of up to two, and all of up to five that stand at edges.
func TestShortBytes(t *testing.T) {
	for a := range 256 {
		holdRead(t, string([]byte{byte(a)}))
		for b := range 256 {
			holdRead(t, string([]byte{byte(a), byte(b)}))
		}
	}
	edges := "\x00\x01\x02\x03\x0a\x0b\x10\x11\x13\x14\xff"
	level := []string{""}
	for range 5 {
		var next []string
		for _, s := range level {
			for k := range len(edges) {
				holdRead(t, s+edges[k:k+1])
				next = append(next, s+edges[k:k+1])
			}
		}
		level = next
	}
}

// TestSameOfDrawn: programs are the same just where their bytes are.
func TestSameOfDrawn(t *testing.T) {
	d := draws(4)
	for range 20000 {
		var l []api.Inst
		for range 1 + d.below(3) {
			l = append(l, d.inst())
		}
		m := slices.Clone(l)
		d.spoil(&m[d.below(len(m))])
		want := slices.EqualFunc(l, m, func(a, b api.Inst) bool {
			return a.Op == b.Op && a.A == b.A && a.B == b.B && a.C == b.C && a.V.Kind == b.V.Kind && a.V.N == b.V.N && a.V.S == b.V.S
		})
		if code.Same(l, m) != want || code.Same(m, l) != want {
			t.Fatalf("%v and %v", l, m)
		}
		s, e := code.Write(m)
		was, _ := code.Write(l)
		if e == api.OK && (s == was) != want {
			t.Fatalf("%v and %v: %q and %q", l, m, was, s)
		}
	}
}
