package code_test

import (
	"math"
	"slices"
	"strings"
	"testing"

	"factotum/api"
	"factotum/code"
)

// ops is the chapter's table, laid out by the Ops' numbers: which operands each has.
var ops = []struct {
	name, has string
}{
	1:  {"Const", "A"},
	2:  {"Move", "AB"},
	3:  {"Add", "ABC"},
	4:  {"Sub", "ABC"},
	5:  {"Mul", "ABC"},
	6:  {"Cat", "ABC"},
	7:  {"Less", "ABC"},
	8:  {"Same", "ABC"},
	9:  {"Jump", "A"},
	10: {"Unless", "AB"},
	11: {"Load", "AB"},
	12: {"Store", "AB"},
	13: {"Drop", "A"},
	14: {"Emit", "A"},
	15: {"Sleep", "A"},
	16: {"Child", "ABC"},
	17: {"Step", ""},
	18: {"Done", "A"},
	19: {"Fail", "A"},
}

// noOps are numbers of no Op, those that are one's in fewer bits among them.
var noOps = []int{math.MinInt, math.MinInt + 1, math.MinInt32, -256, -255, -19, -2, -1, 0, 20, 21, 127, 128, 255, 256, 257, 273, 1 << 16, 1<<16 + 1, 1<<32 + 1, math.MaxInt32, math.MaxInt - 1, math.MaxInt}

func num(n int64) api.Value { return api.Value{Kind: api.Int, N: n} }

func text(s string) api.Value { return api.Value{Kind: api.Text, S: s} }

// values are those that a Const may have, with their bytes.
var values = []struct {
	v     api.Value
	bytes string
}{
	{num(0), "\x01\x00\x00\x00\x00\x00\x00\x00\x00"},
	{num(1), "\x01\x00\x00\x00\x00\x00\x00\x00\x01"},
	{num(5), "\x01\x00\x00\x00\x00\x00\x00\x00\x05"},
	{num(-1), "\x01\xff\xff\xff\xff\xff\xff\xff\xff"},
	{num(0x0102030405060708), "\x01\x01\x02\x03\x04\x05\x06\x07\x08"},
	{num(math.MaxInt64), "\x01\x7f\xff\xff\xff\xff\xff\xff\xff"},
	{num(math.MinInt64), "\x01\x80\x00\x00\x00\x00\x00\x00\x00"},
	{text(""), "\x02\x00"},
	{text("a"), "\x02\x01a"},
	{text("\x00"), "\x02\x01\x00"},
	{text("\xff\x01"), "\x02\x02\xff\x01"},
	{text("hi"), "\x02\x02hi"},
	{text("012345678"), "\x02\x09012345678"},
	{text("0123456789"), "\x02\x0a0123456789"},
	{text("\x00\x00\x00\x00\x00\x00\x00\x00\x00\x00"), "\x02\x0a\x00\x00\x00\x00\x00\x00\x00\x00\x00\x00"},
}

// wrongValues are those that no instruction may have.
var wrongValues = []api.Value{
	{N: 1},
	{S: "a"},
	{Kind: -1},
	{Kind: 3},
	{Kind: 3, N: 1},
	{Kind: 255},
	{Kind: 256},
	{Kind: 257},
	{Kind: 258},
	{Kind: math.MinInt},
	{Kind: math.MaxInt},
	{Kind: api.Int, S: "a"},
	{Kind: api.Int, S: "\x00"},
	{Kind: api.Int, N: 1, S: "a"},
	{Kind: api.Int, S: "01234567890"},
	{Kind: api.Text, N: 1},
	{Kind: api.Text, N: -1},
	{Kind: api.Text, N: 1, S: "a"},
	{Kind: api.Text, N: math.MinInt64, S: "a"},
	text("01234567890"),
	text(strings.Repeat("a", 255)),
	text(strings.Repeat("a", 256)),
	text(strings.Repeat("a", 266)),
	text(strings.Repeat("a", 1<<16)),
}

// inst is an instruction that may be, if o may be an operand.
func inst(op, o int) api.Inst {
	i := api.Inst{Op: op}
	for _, name := range ops[op].has {
		*field(&i, name) = o
	}
	if op == api.Const {
		i.V = num(5)
	}
	return i
}

// field is the operand of that name.
func field(i *api.Inst, name rune) *int {
	switch name {
	case 'A':
		return &i.A
	case 'B':
		return &i.B
	}
	return &i.C
}

// refused checks that Write answers an error, and nothing beside it.
func refused(t *testing.T, l []api.Inst, want api.Errno) {
	t.Helper()
	if s, e := code.Write(l); s != "" || e != want {
		t.Errorf("%v: %q, error %d, not %d", l, s, e, want)
	}
}

// unread checks that Read answers an error, and nothing beside it.
func unread(t *testing.T, s string, want api.Errno) {
	t.Helper()
	if l, e := code.Read(s); len(l) != 0 || e != want {
		t.Errorf("%q: %v, error %d, not %d", s, l, e, want)
	}
}

// both checks that a program has these bytes, and bytes are this program.
func both(t *testing.T, l []api.Inst, s string) {
	t.Helper()
	if got, e := code.Write(l); got != s || e != api.OK {
		t.Errorf("%v: %q, error %d, not %q", l, got, e, s)
	}
	if got, e := code.Read(s); !slices.Equal(got, l) || e != api.OK {
		t.Errorf("%q: %v, error %d, not %v", s, got, e, l)
	}
}

func TestExamples(t *testing.T) {
	both(t, []api.Inst{{Op: api.Const, A: 1, V: num(5)}}, "\x01\x01\x01\x00\x00\x00\x00\x00\x00\x00\x05")
	both(t, []api.Inst{{Op: api.Step}}, "\x11")
	both(t, []api.Inst{{Op: api.Const, A: 1, V: num(5)}, {Op: api.Step}}, "\x01\x01\x01\x00\x00\x00\x00\x00\x00\x00\x05\x11")
}

func TestOperands(t *testing.T) {
	for op := 1; op < len(ops); op++ {
		if n, there := code.Operands(op); n != len(ops[op].has) || !there {
			t.Errorf("%s: %d, %v", ops[op].name, n, there)
		}
	}
	for _, op := range noOps {
		if n, there := code.Operands(op); n != 0 || there {
			t.Errorf("%d: %d, %v", op, n, there)
		}
	}
}

// TestNamedOps: the Ops of api have the numbers of the table above.
func TestNamedOps(t *testing.T) {
	for i, op := range []int{api.Const, api.Move, api.Add, api.Sub, api.Mul, api.Cat, api.Less, api.Same, api.Jump, api.Unless, api.Load, api.Store, api.Drop, api.Emit, api.Sleep, api.Child, api.Step, api.Done, api.Fail} {
		if op != i+1 {
			t.Errorf("%s is %d", ops[i+1].name, op)
		}
	}
}

func TestEachOp(t *testing.T) {
	for op := 1; op < len(ops); op++ {
		for _, o := range []int{0, 1, 2, 127, 128, 254, 255} {
			want := string([]byte{byte(op)}) + strings.Repeat(string([]byte{byte(o)}), len(ops[op].has))
			if op == api.Const {
				want += "\x01\x00\x00\x00\x00\x00\x00\x00\x05"
			}
			both(t, []api.Inst{inst(op, o)}, want)
		}
	}
}

func TestOrderOfOperands(t *testing.T) {
	for op := 1; op < len(ops); op++ {
		i := inst(op, 0)
		want := []byte{byte(op)}
		for k, name := range ops[op].has {
			*field(&i, name) = 7 + k
			want = append(want, byte(7+k))
		}
		if op == api.Const {
			want = append(want, "\x01\x00\x00\x00\x00\x00\x00\x00\x05"...)
		}
		both(t, []api.Inst{i}, string(want))
	}
}

func TestWrongOperands(t *testing.T) {
	wrong := []int{math.MinInt, -1 << 32, -256, -255, -1, 256, 257, 511, 1 << 16, 1 << 32, 1<<32 + 1, math.MaxInt}
	for op := 1; op < len(ops); op++ {
		for _, name := range "ABC" {
			l := wrong
			if !strings.ContainsRune(ops[op].has, name) {
				l = append(slices.Clone(wrong), 1, 2, 127, 128, 255)
			}
			for _, o := range l {
				i := inst(op, 3)
				*field(&i, name) = o
				refused(t, []api.Inst{i}, api.ErrField)
			}
		}
	}
}

func TestNoSuchOp(t *testing.T) {
	for _, op := range noOps {
		refused(t, []api.Inst{{Op: op}}, api.ErrField)
		refused(t, []api.Inst{{Op: op, A: 1, V: num(5)}}, api.ErrField)
	}
	for op := range 256 {
		if op < 1 || op > 19 {
			unread(t, string([]byte{byte(op)}), api.ErrField)
			unread(t, string([]byte{byte(op), 0, 0, 0}), api.ErrField)
			unread(t, string([]byte{api.Step, byte(op), api.Step}), api.ErrField)
		}
	}
}

func TestValues(t *testing.T) {
	for _, x := range values {
		both(t, []api.Inst{{Op: api.Const, A: 4, V: x.v}}, "\x01\x04"+x.bytes)
		both(t, []api.Inst{{Op: api.Step}, {Op: api.Const, V: x.v}, {Op: api.Step}}, "\x11\x01\x00"+x.bytes+"\x11")
	}
	refused(t, []api.Inst{{Op: api.Const}}, api.ErrField)
	for _, v := range wrongValues {
		refused(t, []api.Inst{{Op: api.Const, V: v}}, api.ErrField)
	}
}

func TestValueWhereThereIsNone(t *testing.T) {
	for op := 2; op < len(ops); op++ {
		for _, x := range values {
			i := inst(op, 1)
			i.V = x.v
			refused(t, []api.Inst{i}, api.ErrField)
		}
		for _, v := range wrongValues {
			i := inst(op, 1)
			i.V = v
			refused(t, []api.Inst{i}, api.ErrField)
		}
	}
}

func TestNoSuchKind(t *testing.T) {
	for k := range 256 {
		if k != 1 && k != 2 {
			head := string([]byte{api.Const, 0, byte(k)})
			for _, more := range []string{"", "\x00", "\x0b", "\x01a", "\x00\x00\x00\x00\x00\x00\x00\x00"} {
				unread(t, head+more, api.ErrField)
			}
		}
	}
}

// TestLongTexts: what a text's first byte tells is enough for ErrLong, whether its bytes are there or not.
func TestLongTexts(t *testing.T) {
	for n := 11; n < 256; n++ {
		head := string([]byte{api.Const, 0, 2, byte(n)})
		unread(t, head, api.ErrLong)
		unread(t, head+"0123456789", api.ErrLong)
		unread(t, head+strings.Repeat("a", n), api.ErrLong)
		unread(t, head+strings.Repeat("a", n)+"\x11", api.ErrLong)
	}
}

func TestHowMany(t *testing.T) {
	both(t, nil, "")
	for op := 1; op < len(ops); op++ {
		i := inst(op, 255)
		one, _ := code.Write([]api.Inst{i})
		for _, n := range []int{0, 1, 2, 63, 64} {
			both(t, slices.Repeat([]api.Inst{i}, n), strings.Repeat(one, n))
		}
		for _, n := range []int{65, 66, 128, 1000} {
			refused(t, slices.Repeat([]api.Inst{i}, n), api.ErrLong)
			unread(t, strings.Repeat(one, n), api.ErrLong)
		}
	}
}

// TestWriteOrder: too many is told ahead of what may not be, wherever that stands.
func TestWriteOrder(t *testing.T) {
	for k := range 65 {
		l := slices.Repeat([]api.Inst{{Op: api.Step}}, 65)
		l[k] = api.Inst{}
		refused(t, l, api.ErrLong)
		if k < 64 {
			refused(t, l[:64], api.ErrField)
		}
	}
	refused(t, make([]api.Inst, 64), api.ErrField)
	refused(t, make([]api.Inst, 65), api.ErrLong)
}

// TestThe65th: as soon as it begins there is one too many, whatever it would be.
func TestThe65th(t *testing.T) {
	full := strings.Repeat("\x11", 64)
	for op := range 256 {
		unread(t, full+string([]byte{byte(op)}), api.ErrLong)
		unread(t, full+string([]byte{byte(op), 0, 0, 0}), api.ErrLong)
	}
	unread(t, full+"\x01\x00\x03", api.ErrLong)
	unread(t, full+"\x01\x00\x02\xff", api.ErrLong)
	for k := range 64 {
		wrong := full[:k] + "\x00" + full[k+1:] + "\x11"
		unread(t, wrong, api.ErrField)
	}
}

func TestFirstFromTheLeft(t *testing.T) {
	for _, x := range []struct {
		bytes string
		want  api.Errno
	}{
		{"\x00\x01", api.ErrField},
		{"\x11\x14\x01\x00\x02\x0b", api.ErrField},
		{"\x01\x00\x02\x0b\x00", api.ErrLong},
		{"\x01\x00\x02\x0b\x03", api.ErrLong},
		{"\x01\x00\x02\x0a\x00\x00", api.ErrShort},
		{"\x01\x00\x03\x02\x0b", api.ErrField},
		{"\x01\xff\x02\x00\x01\x00\x00", api.ErrField},
		{"\x01\xff\x02\x00\x01\x00\x02\xff", api.ErrLong},
		{"\x01\xff\x02\x00\x01\x00\x02\x01", api.ErrShort},
		{"\x03\x00\x00", api.ErrShort},
		{"\x03\x00\x00\x00\x00", api.ErrField},
	} {
		unread(t, x.bytes, x.want)
	}
}

// TestEachBeginning: of a program's bytes each beginning is the instructions that are whole, or ends within one.
func TestEachBeginning(t *testing.T) {
	var l []api.Inst
	for op := 1; op < len(ops); op++ {
		l = append(l, inst(op, op))
	}
	for _, x := range values {
		l = append(l, api.Inst{Op: api.Const, A: 2, V: x.v})
	}
	ends := map[int]int{0: 0}
	for n := range l {
		s, _ := code.Write(l[:n+1])
		ends[len(s)] = n + 1
	}
	s, _ := code.Write(l)
	for k := range len(s) + 1 {
		n, whole := ends[k]
		if !whole {
			unread(t, s[:k], api.ErrShort)
			continue
		}
		both(t, l[:n], s[:k])
	}
}

// TestSame: programs that are unlike in one field alone, or in their length.
func TestSame(t *testing.T) {
	base := []api.Inst{{Op: api.Const, A: 1, B: 2, C: 3, V: api.Value{Kind: api.Text, N: 4, S: "a"}}, {Op: api.Step}}
	if !code.Same(base, slices.Clone(base)) || !code.Same(base, base) {
		t.Error("a program isn't the same as itself")
	}
	for k := range base {
		for n, change := range []func(i *api.Inst){
			func(i *api.Inst) { i.Op++ },
			func(i *api.Inst) { i.A += 256 },
			func(i *api.Inst) { i.B-- },
			func(i *api.Inst) { i.C = math.MinInt },
			func(i *api.Inst) { i.V.Kind++ },
			func(i *api.Inst) { i.V.N += 1 << 32 },
			func(i *api.Inst) { i.V.S += "\x00" },
		} {
			other := slices.Clone(base)
			change(&other[k])
			if code.Same(base, other) || code.Same(other, base) {
				t.Errorf("the same, though field %d of %d is another", n, k)
			}
		}
	}
	for n := range base {
		if code.Same(base, base[:n]) || code.Same(base[:n], base) {
			t.Errorf("the same as its first %d", n)
		}
	}
	if code.Same(base, []api.Inst{base[1], base[0]}) || code.Same(base[:1], base[1:]) {
		t.Error("the same in another order")
	}
	if !code.Same(nil, nil) || !code.Same(nil, []api.Inst{}) || !code.Same([]api.Inst{}, nil) {
		t.Error("empty ones aren't the same")
	}
	if code.Same(nil, make([]api.Inst, 1)) || code.Same(make([]api.Inst, 1), nil) {
		t.Error("an empty one is the same as a zero instruction")
	}
	if !code.Same(make([]api.Inst, 70), make([]api.Inst, 70)) || code.Same(make([]api.Inst, 70), make([]api.Inst, 71)) {
		t.Error("long ones that may not be")
	}
}

// TestMemory: nothing that is handed in is changed, and what is answered is the caller's own.
func TestMemory(t *testing.T) {
	l := []api.Inst{{Op: api.Const, A: 2, V: text("hi")}, {Op: api.Add, A: 1, B: 2, C: 3}, {Op: api.Done, A: 2}}
	kept := slices.Clone(l)
	s, e := code.Write(l)
	if e != api.OK {
		t.Fatal(e)
	}
	for range 2 {
		m, e := code.Read(s)
		if e != api.OK || !slices.Equal(m, kept) || !code.Same(m, l) {
			t.Fatalf("%v, error %d", m, e)
		}
		clear(m)
	}
	if !slices.Equal(l, kept) {
		t.Errorf("%v", l)
	}
}
