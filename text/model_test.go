package text_test

import (
	"encoding/hex"
	"fmt"
	"math"
	"math/big"
	"regexp"
	"slices"
	"strings"
	"testing"

	"factotum/api"
	"factotum/code"
	"factotum/text"
)

// draws is a row of numbers that look drawn, the same ones each time.
type draws uint64

func (d *draws) next() uint64 {
	*d = *d*6364136223846793005 + 1442695040888963407
	x := uint64(*d)
	return (x ^ x>>29) * 0xbf58476d1ce4e5b9 >> 16
}

func (d *draws) below(n int) int { return int(d.next() % uint64(n)) }

func (d *draws) of(l ...string) string { return l[d.below(len(l))] }

// inst is an instruction that may be.
func (d *draws) inst() api.Inst {
	i := api.Inst{Op: 1 + d.below(19)}
	for _, name := range ops[i.Op].has {
		*field(&i, name) = d.below(256)
	}
	if i.Op == api.Const {
		i.V = d.value()
	}
	return i
}

func (d *draws) value() api.Value {
	switch d.below(4) {
	case 0:
		return num(int64(d.next()<<32 ^ d.next()))
	case 1:
		return num(int64(d.next()<<32^d.next()) >> d.below(64))
	}
	b := make([]byte, d.below(11))
	for k := range b {
		b[k] = byte(d.below(256))
	}
	return str(string(b))
}

func (d *draws) program() []api.Inst {
	var l []api.Inst
	for range d.below(67) {
		l = append(l, d.inst())
	}
	return l
}

// spoil changes one field of an instruction, so that it may still be or not.
func (d *draws) spoil(i *api.Inst) {
	odd := []int{-1, 0, 1, 2, 3, 19, 20, 255, 256, 257, math.MinInt, math.MaxInt}
	o := odd[d.below(len(odd))]
	switch d.below(7) {
	case 0:
		i.Op = o
	case 1, 2, 3:
		*field(i, rune("ABC"[d.below(3)])) = o
	case 4:
		i.V.Kind = api.Kind(o)
	case 5:
		i.V.N = int64(o)
	case 6:
		i.V.S = strings.Repeat("x", d.below(13))
	}
}

// blanks is none, one or a few of them.
func (d *draws) blanks(least int) string {
	n := least
	if d.below(4) == 0 {
		n += d.below(3)
	}
	return strings.Repeat(" ", n)
}

// loose is the text with more blanks and with empty lines, and perhaps without its last byte 10.
func (d *draws) loose(s string) string {
	var b strings.Builder
	for line := range strings.Lines(s) {
		for d.below(8) == 0 {
			b.WriteString(d.blanks(0) + "\n")
		}
		b.WriteString(d.blanks(0))
		for k, w := range strings.Fields(line) {
			if k > 0 {
				b.WriteString(d.blanks(1))
			}
			b.WriteString(w)
		}
		b.WriteString(d.blanks(0) + "\n")
	}
	if d.below(2) == 0 {
		return strings.TrimSuffix(b.String(), "\n")
	}
	for d.below(2) == 0 {
		b.WriteString(d.blanks(0) + "\n")
	}
	return b.String() + d.blanks(0)
}

// word is one that often is right where it stands.
func (d *draws) word() string {
	switch d.below(8) {
	case 0:
		return fmt.Sprint(d.below(300))
	case 1:
		return d.of("00", "01", "-0", "-1", "+1", "'", "''", "'6", "'6G", "'AB", "256", "-9223372036854775808", "-9223372036854775809", "9223372036854775808", "fly", "STEP", "\t", "step\r", "")
	case 2:
		return "'" + strings.Repeat("7a", d.below(12))
	}
	return fmt.Sprint(d.below(256))
}

// plainLine is an instruction's line as the chapter spells it, by one pattern for each kind of operands.
var plainLine = func() []*regexp.Regexp {
	const operand = ` +(0|[1-9][0-9]*)`
	l := make([]*regexp.Regexp, len(ops))
	for op := 1; op < len(ops); op++ {
		p := ops[op].name + strings.Repeat(operand, len(ops[op].has))
		if op == api.Const {
			p += ` +(0|-?[1-9][0-9]*|'(?:[0-9a-f][0-9a-f])*)`
		}
		l[op] = regexp.MustCompile(`^ *` + p + ` *$`)
	}
	return l
}()

// plainInst is a second reading of a line.
func plainInst(line string) (api.Inst, bool) {
	for op := 1; op < len(ops); op++ {
		m := plainLine[op].FindStringSubmatch(line)
		if m == nil {
			continue
		}
		i := api.Inst{Op: op}
		for k, name := range ops[op].has {
			o, _ := new(big.Int).SetString(m[1+k], 10)
			if o.Cmp(big.NewInt(255)) > 0 {
				return api.Inst{}, false
			}
			*field(&i, name) = int(o.Int64())
		}
		if op == api.Const {
			v, right := plainValue(m[2])
			i.V = v
			return i, right
		}
		return i, true
	}
	return api.Inst{}, false
}

// plainValue is the value of a word that is a number's or a text's, if it isn't too great.
func plainValue(word string) (api.Value, bool) {
	if word[0] == '\'' {
		b, err := hex.DecodeString(word[1:])
		return str(string(b)), err == nil && len(b) <= 10
	}
	n, _ := new(big.Int).SetString(word, 10)
	return num(n.Int64()), n.IsInt64()
}

// plainRead is a second reading of Read.
func plainRead(s string) ([]api.Inst, int, api.Errno) {
	var l []api.Inst
	for k, line := range strings.Split(s, "\n") {
		if strings.Trim(line, " ") == "" {
			continue
		}
		i, right := plainInst(line)
		if !right {
			return nil, k + 1, api.ErrLine
		}
		if len(l) == 64 {
			return nil, k + 1, api.ErrLong
		}
		l = append(l, i)
	}
	return l, 0, api.OK
}

// plainWrite is a second reading of Write.
func plainWrite(l []api.Inst) (string, api.Errno) {
	if _, e := code.Write(l); e != api.OK {
		return "", e
	}
	s := ""
	for _, i := range l {
		s += ops[i.Op].name
		for _, name := range ops[i.Op].has {
			s += fmt.Sprintf(" %d", *field(&i, name))
		}
		switch i.V.Kind {
		case api.Int:
			s += fmt.Sprintf(" %d", i.V.N)
		case api.Text:
			s += fmt.Sprintf(" '%x", i.V.S)
		}
		s += "\n"
	}
	return s, api.OK
}

// oneWay is a text without the blanks and the lines that play no part.
func oneWay(s string) string {
	var b strings.Builder
	for _, line := range strings.Split(s, "\n") {
		w := strings.FieldsFunc(line, func(r rune) bool { return r == ' ' })
		if len(w) > 0 {
			b.WriteString(strings.Join(w, " ") + "\n")
		}
	}
	return b.String()
}

// holdWrite holds Write against its second reading, and what was written against what is read.
func holdWrite(t *testing.T, l []api.Inst) api.Errno {
	t.Helper()
	want, wantErr := plainWrite(l)
	s, e := text.Write(l)
	if s != want || e != wantErr {
		t.Fatalf("%v: %q, error %d, not %q, %d", l, s, e, want, wantErr)
	}
	if e == api.OK {
		if m, n, e := text.Read(s); e != api.OK || n != 0 || !slices.Equal(m, l) {
			t.Fatalf("%v: read as %v, line %d, error %d", l, m, n, e)
		}
	}
	return e
}

// holdRead holds Read against its second reading, and what was read against what is written, but for blanks and empty lines.
func holdRead(t *testing.T, s string) api.Errno {
	t.Helper()
	want, wantNumber, wantErr := plainRead(s)
	l, n, e := text.Read(s)
	if !slices.Equal(l, want) || n != wantNumber || e != wantErr {
		t.Fatalf("%q: %v, line %d, error %d, not %v, %d, %d", s, l, n, e, want, wantNumber, wantErr)
	}
	if e == api.OK {
		if again, e := text.Write(l); e != api.OK || again != oneWay(s) {
			t.Fatalf("%q: written as %q, error %d", s, again, e)
		}
	}
	return e
}

// seen checks that drawn things came to all that a call may answer.
func seen(t *testing.T, counts map[api.Errno]int, want ...api.Errno) {
	t.Helper()
	for _, e := range want {
		if counts[e] < 50 {
			t.Errorf("error %d only %d times", e, counts[e])
		}
	}
}

func TestDrawnPrograms(t *testing.T) {
	d := draws(1)
	counts := map[api.Errno]int{}
	for range 5000 {
		l := d.program()
		counts[holdWrite(t, l)]++
		if len(l) > 0 {
			d.spoil(&l[d.below(len(l))])
			counts[holdWrite(t, l)]++
		}
	}
	seen(t, counts, api.OK, api.ErrLong, api.ErrField)
}

// TestLooseTexts: programs' lines, with other blanks and empty lines, are the same programs.
func TestLooseTexts(t *testing.T) {
	d := draws(2)
	for range 3000 {
		l := d.program()
		s, e := text.Write(l)
		if e != api.OK {
			continue
		}
		x := d.loose(s)
		holdRead(t, x)
		if m, _, e := text.Read(x); e != api.OK || !slices.Equal(m, l) {
			t.Fatalf("%q: %v, error %d, not %v", x, m, e, l)
		}
	}
}

// TestChangedTexts: lines of programs, cut, with a byte changed, put in or taken out.
func TestChangedTexts(t *testing.T) {
	d := draws(3)
	counts := map[api.Errno]int{}
	for range 3000 {
		s, e := plainWrite(d.program())
		if e != api.OK || s == "" {
			continue
		}
		k := d.below(len(s))
		c := d.of("0", "1", "9", "a", "f", "A", "g", "'", "-", "+", " ", "\n", "\t", "\r", "_", string([]byte{byte(d.below(256))}))
		for _, x := range []string{s, s[:k], s[k:], s[:k] + c + s[k+1:], s[:k] + c + s[k:], s[:k] + s[k+1:], s + c, s + s, s + "\n" + s[:k]} {
			counts[holdRead(t, x)]++
		}
	}
	seen(t, counts, api.OK, api.ErrLine, api.ErrLong)
}

// TestDrawnTexts: lines of drawn words, and runs of drawn bytes that lines are made of.
func TestDrawnTexts(t *testing.T) {
	d := draws(4)
	counts := map[api.Errno]int{}
	for range 30000 {
		w := []string{ops[1+d.below(19)].name}
		for range d.below(5) {
			w = append(w, d.word())
		}
		counts[holdRead(t, d.loose(strings.Join(w, " ")+"\n"))]++
	}
	for range 30000 {
		s := d.of("", "step\n", "const 1 ", "const 1 '", "move 1 ", "move ", "\n \n")
		for range d.below(8) {
			s += d.of("0", "1", "2", "5", "9", "a", "f", "'", "-", " ", "\n", "step")
		}
		counts[holdRead(t, s)]++
	}
	seen(t, counts, api.OK, api.ErrLine)
}

// TestShortValues: all words of up to five bytes that words of values are made of.
func TestShortValues(t *testing.T) {
	level := []string{""}
	for range 5 {
		var next []string
		for _, s := range level {
			for _, c := range []string{"'", "-", "+", "0", "1", "a", "F", " "} {
				holdRead(t, "const 1 "+s+c)
				holdRead(t, "jump "+s+c)
				next = append(next, s+c)
			}
		}
		level = next
	}
}
