package text_test

import (
	"encoding/hex"
	"math"
	"slices"
	"strconv"
	"strings"
	"testing"

	"factotum/api"
	"factotum/code"
	"factotum/text"
)

// ops is the names in the chapter's order, by the Ops' numbers, and which operands layer 13 gives each.
var ops = []struct {
	name, has string
}{
	1:  {"const", "A"},
	2:  {"move", "AB"},
	3:  {"add", "ABC"},
	4:  {"sub", "ABC"},
	5:  {"mul", "ABC"},
	6:  {"cat", "ABC"},
	7:  {"less", "ABC"},
	8:  {"same", "ABC"},
	9:  {"jump", "A"},
	10: {"unless", "AB"},
	11: {"load", "AB"},
	12: {"store", "AB"},
	13: {"drop", "A"},
	14: {"emit", "A"},
	15: {"sleep", "A"},
	16: {"child", "ABC"},
	17: {"step", ""},
	18: {"done", "A"},
	19: {"fail", "A"},
}

// noOps are numbers of no Op, those that are one's in fewer bits among them.
var noOps = []int{math.MinInt, math.MinInt + 1, math.MinInt32, -256, -255, -19, -2, -1, 0, 20, 21, 127, 128, 255, 256, 257, 273, 1 << 16, 1<<16 + 1, 1<<32 + 1, math.MaxInt32, math.MaxInt - 1, math.MaxInt}

func num(n int64) api.Value { return api.Value{Kind: api.Int, N: n} }

func str(s string) api.Value { return api.Value{Kind: api.Text, S: s} }

// values are those that a Const may have, with their words.
var values = []struct {
	v    api.Value
	word string
}{
	{num(0), "0"},
	{num(1), "1"},
	{num(-1), "-1"},
	{num(9), "9"},
	{num(10), "10"},
	{num(-10), "-10"},
	{num(255), "255"},
	{num(256), "256"},
	{num(-256), "-256"},
	{num(1000000), "1000000"},
	{num(math.MaxInt64 - 1), "9223372036854775806"},
	{num(math.MaxInt64), "9223372036854775807"},
	{num(math.MinInt64 + 1), "-9223372036854775807"},
	{num(math.MinInt64), "-9223372036854775808"},
	{str(""), "'"},
	{str("\x00"), "'00"},
	{str("h"), "'68"},
	{str("\n"), "'0a"},
	{str(" "), "'20"},
	{str("'"), "'27"},
	{str("\xff"), "'ff"},
	{str("hi"), "'6869"},
	{str("\x00\xff"), "'00ff"},
	{str("ä"), "'c3a4"},
	{str("012345678"), "'303132333435363738"},
	{str("0123456789"), "'30313233343536373839"},
	{str("\x00\x00\x00\x00\x00\x00\x00\x00\x00\x00"), "'00000000000000000000"},
	{str("\xff\xfe\xfd\xfc\xfb\xfa\xef\xde\xcd\xbc"), "'fffefdfcfbfaefdecdbc"},
}

// inst is an instruction that may be, if o may be an operand.
func inst(op, o int) api.Inst {
	i := api.Inst{Op: op}
	for _, name := range ops[op].has {
		*field(&i, name) = o
	}
	if op == api.Const {
		i.V = num(5)
	}
	return i
}

// line is what inst of the same numbers is spelt as.
func line(op, o int) string {
	l := ops[op].name + strings.Repeat(" "+strconv.Itoa(o), len(ops[op].has))
	if op == api.Const {
		l += " 5"
	}
	return l
}

// field is the operand of that name.
func field(i *api.Inst, name rune) *int {
	switch name {
	case 'A':
		return &i.A
	case 'B':
		return &i.B
	}
	return &i.C
}

// refused checks that Write answers an error, and nothing beside it.
func refused(t *testing.T, l []api.Inst, want api.Errno) {
	t.Helper()
	if s, e := text.Write(l); s != "" || e != want {
		t.Errorf("%v: %q, error %d, not %d", l, s, e, want)
	}
}

// unread checks that Read answers an error and the line's number, and nothing beside them.
func unread(t *testing.T, s string, number int, want api.Errno) {
	t.Helper()
	if l, n, e := text.Read(s); len(l) != 0 || n != number || e != want {
		t.Errorf("%.200q: %v, line %d, error %d, not %d, %d", s, l, n, e, number, want)
	}
}

// noLine checks that s alone is no instruction's line, and that it is none ahead of, between and behind others.
func noLine(t *testing.T, s string) {
	t.Helper()
	unread(t, s, 1, api.ErrLine)
	unread(t, s+"\n", 1, api.ErrLine)
	unread(t, s+"\nstep\n", 1, api.ErrLine)
	unread(t, "step\n"+s, 2, api.ErrLine)
	unread(t, "step\n\n  \ndone 1\n "+s+" \nstep\n", 5, api.ErrLine)
}

// read checks that a text is these instructions.
func read(t *testing.T, s string, want []api.Inst) {
	t.Helper()
	if l, n, e := text.Read(s); !slices.Equal(l, want) || n != 0 || e != api.OK {
		t.Errorf("%.200q: %v, line %d, error %d, not %v", s, l, n, e, want)
	}
}

// both checks that a program has these lines, and that they are this program.
func both(t *testing.T, l []api.Inst, s string) {
	t.Helper()
	if got, e := text.Write(l); got != s || e != api.OK {
		t.Errorf("%v: %q, error %d, not %q", l, got, e, s)
	}
	read(t, s, l)
}

func TestExamples(t *testing.T) {
	l := []api.Inst{{Op: api.Const, A: 1, V: num(5)}, {Op: api.Const, A: 2, V: str("hi")}, {Op: api.Add, B: 1, C: 2}, {Op: api.Step}}
	lines := []string{"const 1 5\n", "const 2 '6869\n", "add 0 1 2\n", "step\n"}
	for k := range l {
		both(t, l[k:k+1], lines[k])
	}
	both(t, l, strings.Join(lines, ""))
}

func TestName(t *testing.T) {
	for op := 1; op < len(ops); op++ {
		if got := text.Name(op); got != ops[op].name {
			t.Errorf("%d: %q, not %q", op, got, ops[op].name)
		}
	}
	for _, op := range noOps {
		if got := text.Name(op); got != "" {
			t.Errorf("%d: %q", op, got)
		}
	}
	for op := -1000; op < 1000; op++ {
		if _, there := code.Operands(op); there != (text.Name(op) != "") {
			t.Errorf("%d: %q, and layer 13 says %v", op, text.Name(op), there)
		}
	}
}

// TestNamesInOrder: the chapter's list of names, against api's names of the Ops.
func TestNamesInOrder(t *testing.T) {
	list := strings.Fields("const move add sub mul cat less same jump unless load store drop emit sleep child step done fail")
	for k, op := range []int{api.Const, api.Move, api.Add, api.Sub, api.Mul, api.Cat, api.Less, api.Same, api.Jump, api.Unless, api.Load, api.Store, api.Drop, api.Emit, api.Sleep, api.Child, api.Step, api.Done, api.Fail} {
		if op != k+1 || text.Name(op) != list[k] || ops[op].name != list[k] {
			t.Errorf("%d: %q, not %q", op, text.Name(op), list[k])
		}
	}
}

func TestEachOp(t *testing.T) {
	for op := 1; op < len(ops); op++ {
		for o := range 256 {
			both(t, []api.Inst{inst(op, o)}, line(op, o)+"\n")
		}
	}
}

func TestOrderOfOperands(t *testing.T) {
	for op := 1; op < len(ops); op++ {
		i := inst(op, 0)
		want := ops[op].name
		for k, name := range ops[op].has {
			*field(&i, name) = 7 + 100*k
			want += " " + strconv.Itoa(7+100*k)
		}
		if op == api.Const {
			want += " 5"
		}
		both(t, []api.Inst{i}, want+"\n")
	}
}

func TestValues(t *testing.T) {
	for _, x := range values {
		both(t, []api.Inst{{Op: api.Const, A: 4, V: x.v}}, "const 4 "+x.word+"\n")
		both(t, []api.Inst{{Op: api.Step}, {Op: api.Const, A: 255, V: x.v}, {Op: api.Step}}, "step\nconst 255 "+x.word+"\nstep\n")
	}
}

// TestTexts: each byte, in each place of texts of each length.
func TestTexts(t *testing.T) {
	for c := range 256 {
		for n := 1; n <= 10; n++ {
			for k := range n {
				b := slices.Repeat([]byte{'a'}, n)
				b[k] = byte(c)
				both(t, []api.Inst{{Op: api.Const, V: str(string(b))}}, "const 0 '"+hex.EncodeToString(b)+"\n")
			}
		}
	}
}

// TestWriteRefuses: what layer 13 refuses, with its error, and nothing else.
func TestWriteRefuses(t *testing.T) {
	for _, op := range noOps {
		refused(t, []api.Inst{{Op: op}}, api.ErrField)
		refused(t, []api.Inst{{Op: op, A: 1, V: num(5)}}, api.ErrField)
	}
	for op := 1; op < len(ops); op++ {
		for _, name := range "ABC" {
			wrong := []int{math.MinInt, -1 << 32, -256, -1, 256, 257, 1 << 32, math.MaxInt}
			if !strings.ContainsRune(ops[op].has, name) {
				wrong = append(wrong, 1, 255)
			}
			for _, o := range wrong {
				i := inst(op, 3)
				*field(&i, name) = o
				refused(t, []api.Inst{i}, api.ErrField)
			}
		}
		wrong := []api.Value{{N: 1}, {S: "a"}, {Kind: -1}, {Kind: 3}, {Kind: 257}, {Kind: api.Int, S: "a"}, {Kind: api.Text, N: 1, S: "a"}, str("01234567890"), str(strings.Repeat("a", 1000))}
		if op == api.Const {
			wrong = append(wrong, api.Value{})
		} else {
			wrong = append(wrong, num(0), num(5), str(""), str("a"))
		}
		for _, v := range wrong {
			i := inst(op, 3)
			i.V = v
			refused(t, []api.Inst{i}, api.ErrField)
			refused(t, []api.Inst{{Op: api.Step}, i, {Op: api.Step}}, api.ErrField)
		}
	}
}

// TestWriteOrder: too many is told ahead of what may not be, wherever that stands.
func TestWriteOrder(t *testing.T) {
	for k := range 65 {
		l := slices.Repeat([]api.Inst{{Op: api.Step}}, 65)
		l[k] = api.Inst{}
		refused(t, l, api.ErrLong)
		if k < 64 {
			refused(t, l[:64], api.ErrField)
		}
	}
	refused(t, make([]api.Inst, 64), api.ErrField)
	refused(t, make([]api.Inst, 65), api.ErrLong)
}

func TestBlanks(t *testing.T) {
	for op := 1; op < len(ops); op++ {
		want := []api.Inst{inst(op, 12)}
		s := line(op, 12)
		for _, n := range []int{1, 2, 3, 100} {
			blanks := strings.Repeat(" ", n)
			read(t, blanks+s, want)
			read(t, s+blanks, want)
			read(t, s+blanks+"\n", want)
			read(t, strings.ReplaceAll(s, " ", blanks), want)
			read(t, blanks+strings.ReplaceAll(s, " ", blanks)+blanks+"\n"+blanks, want)
		}
	}
	many := strings.Repeat(" ", 1<<20)
	read(t, many, nil)
	read(t, many+"move"+many+"1"+many+"2"+many, []api.Inst{{Op: api.Move, A: 1, B: 2}})
}

func TestEmptyLines(t *testing.T) {
	for _, s := range []string{"", " ", "     ", "\n", "\n\n", " \n  \n   ", "\n \n", strings.Repeat("\n", 1000), strings.Repeat(" \n", 1<<16)} {
		read(t, s, nil)
		want := []api.Inst{{Op: api.Step}, {Op: api.Jump, A: 7}}
		for _, more := range []string{"", "\n"} {
			read(t, s+"\nstep\njump 7"+more, want)
			read(t, "step\n"+s+"\njump 7"+more, want)
			read(t, "step\njump 7\n"+s+more, want)
			read(t, s+"\nstep\n"+s+"\n"+s+"\njump 7\n"+s+more, want)
		}
	}
	both(t, nil, "")
}

func TestLastLine(t *testing.T) {
	want := []api.Inst{{Op: api.Step}, {Op: api.Emit, A: 3}}
	for _, s := range []string{"step\nemit 3", "step\nemit 3\n", "step\nemit 3 ", "step\nemit 3\n ", "step\nemit 3\n\n"} {
		read(t, s, want)
	}
}

// TestOtherBytes: but for blanks and a byte 10 no byte may stand ahead of, behind, between or within words, or alone on a line.
func TestOtherBytes(t *testing.T) {
	for c := range 256 {
		b := string([]byte{byte(c)})
		if c == 10 || c == 32 {
			continue
		}
		noLine(t, b)
		noLine(t, " "+b+" ")
		noLine(t, b+"step")
		noLine(t, "step"+b)
		noLine(t, "st"+b+"ep")
		noLine(t, b+" step")
		noLine(t, "step "+b)
		noLine(t, "move"+b+"1 2")
		noLine(t, "move 1 2 "+b)
		if c < '0' || c > '9' {
			noLine(t, "move 1"+b+"2")
			noLine(t, "move "+b+"1 2")
			noLine(t, "move 1 2"+b)
			noLine(t, "const 1 5"+b)
			noLine(t, "const 1 5"+b+"5")
			if c != '-' && c != '\'' {
				noLine(t, "const 1 "+b+"5")
			}
		}
		if (c < '0' || c > '9') && (c < 'a' || c > 'f') {
			noLine(t, "const 1 '6"+b)
			noLine(t, "const 1 '"+b+"6")
			noLine(t, "const 1 '"+b+b)
			noLine(t, "const 1 '00"+b+"6ff")
			noLine(t, "const 1 'fff"+b)
		}
	}
	for _, s := range []string{"step\r", "step\r\nstep\r\n", "\tstep", "move\t1\t2", "move 1\t2", "\r", "\t", "\v", "\f", "\u00a0", "\u3000step"} {
		unread(t, s, 1, api.ErrLine)
	}
	unread(t, "step\n\r\nstep", 2, api.ErrLine)
}

func TestWrongNames(t *testing.T) {
	for op := 1; op < len(ops); op++ {
		name := ops[op].name
		behind := strings.TrimPrefix(line(op, 1), name)
		for _, wrong := range []string{strings.ToUpper(name), strings.ToUpper(name[:1]) + name[1:], name[:len(name)-1] + strings.ToUpper(name[len(name)-1:]), name[:len(name)-1], name[1:], name + "s", "x" + name, name + name, name[:1] + " " + name[1:], strconv.Itoa(op), "'" + name} {
			noLine(t, wrong+behind)
			noLine(t, wrong)
		}
		for other := 1; other < len(ops); other++ {
			if other != op {
				noLine(t, name+ops[other].name+behind)
				noLine(t, name+" "+ops[other].name+behind)
			}
		}
		noLine(t, strings.TrimLeft(behind+" 1", " "))
	}
	for _, wrong := range []string{"fly", "fly 1", "0", "1", "20", "-1", "'", "''", "-", "noop", "end", "program", "const,"} {
		noLine(t, wrong)
	}
}

func TestNumberOfWords(t *testing.T) {
	for op := 1; op < len(ops); op++ {
		n := len(ops[op].has)
		if op == api.Const {
			n++
		}
		for k := range 10 {
			s := ops[op].name + strings.Repeat(" 1", k)
			if k != n {
				noLine(t, s)
				noLine(t, s+"  ")
			} else if _, at, e := text.Read(s); at != 0 || e != api.OK {
				t.Errorf("%q: line %d, error %d", s, at, e)
			}
		}
		for _, more := range []string{"0", "1", "'", "'00", "step", "x", "-1", ";"} {
			noLine(t, line(op, 1)+" "+more)
		}
		noLine(t, ops[op].name+strings.Repeat(" 1", 1000))
	}
	noLine(t, "step"+strings.Repeat(" 1", 1<<18))
	noLine(t, strings.Repeat("step ", 1<<16))
}

// notNumbers are words of no number at all.
var notNumbers = []string{
	"00", "01", "007", "-0", "-00", "-01", "-05", "+0", "+1", "+5", "+-1", "-+1", "--1", "-", "+", "1-", "1+",
	"0x1", "0b1", "0o7", "1_0", "_1", "1_", "1e1", "1.0", "1.", ".5", "a", "ff", "1a", "a1", "1'", "inf", "NaN",
	"9223372036854775808", "-9223372036854775809", "9223372036854775817", "18446744073709551615", "18446744073709551616", "18446744073709551617", "-18446744073709551615", "-18446744073709551616",
	"10000000000000000000", "-10000000000000000000", "99999999999999999999", "340282366920938463463374607431768211457",
	"09223372036854775807", "-09223372036854775808", "+9223372036854775807",
	"00000000000000000000000000000001", "\u0661", "\uff11",
}

func TestWrongOperands(t *testing.T) {
	wrong := append([]string{"256", "257", "300", "511", "512", "999", "1000", "65536", "65537", "4294967296", "4294967297", "9223372036854775807", "-1", "-2", "-255", "-256", "-4294967295", "-9223372036854775808", "0255", "0256", "'", "'00", "'31"}, notNumbers...)
	for op := 1; op < len(ops); op++ {
		for k := range ops[op].has {
			for _, o := range wrong {
				w := strings.Fields(line(op, 1))
				w[1+k] = o
				noLine(t, strings.Join(w, " "))
			}
		}
	}
}

func TestWrongValues(t *testing.T) {
	for _, v := range notNumbers {
		noLine(t, "const 1 "+v)
	}
	for _, v := range []string{
		"'6", "'686", "'68697", "'0000000000000000000", "'000000000000000000000",
		"'0A", "'A0", "'FF", "'fF", "'Ff", "'6G", "'g0", "'0g", "'0:", "'0/", "'0`", "'0@", "'+1", "'-1", "' 68", "'68 69", "'68 6", "'0x", "'6_8",
		"'3031323334353637383930", "'0000000000000000000000", "'" + strings.Repeat("61", 12), "'" + strings.Repeat("61", 255), "'" + strings.Repeat("61", 266), "'" + strings.Repeat("61", 1<<16), "'" + strings.Repeat("6", 1001),
		"''", "''68", "'68'", "'68'68", "68'", "6869'", "\"68", "\"68\"", "`68", "hi", "'hi", "6g", "x'68", "-'68", "0'", "-'", "'-",
		"c3a4", "ff", "5a", "\u201968",
	} {
		noLine(t, "const 1 "+v)
	}
	for _, s := range []string{"const", "const 1", "const 5", "const '", "const '68", "const '68 1", "const '68 '68", "const 1 2 3", "const 1 ' '", "const 1 '68 '", "const 1'68", "const 1'"} {
		noLine(t, s)
	}
}

// TestDigitsAlone: digits without a ' are a number, and a ' alone is the empty text.
func TestDigitsAlone(t *testing.T) {
	read(t, "const 1 6869", []api.Inst{{Op: api.Const, A: 1, V: num(6869)}})
	read(t, "const 1 '6869", []api.Inst{{Op: api.Const, A: 1, V: str("hi")}})
	read(t, "const 1 '", []api.Inst{{Op: api.Const, A: 1, V: str("")}})
	read(t, " const  1  '  \n", []api.Inst{{Op: api.Const, A: 1, V: str("")}})
}

func TestHowMany(t *testing.T) {
	for op := 1; op < len(ops); op++ {
		i, s := inst(op, 255), line(op, 255)+"\n"
		for _, n := range []int{0, 1, 2, 63, 64} {
			both(t, slices.Repeat([]api.Inst{i}, n), strings.Repeat(s, n))
			read(t, strings.TrimSuffix(strings.Repeat(s, n), "\n"), slices.Repeat([]api.Inst{i}, n))
			read(t, strings.Repeat("\n \n"+s+"\n", n)+"\n  \n\n", slices.Repeat([]api.Inst{i}, n))
		}
		for _, n := range []int{65, 66, 128, 1000} {
			refused(t, slices.Repeat([]api.Inst{i}, n), api.ErrLong)
			unread(t, strings.Repeat(s, n), 65, api.ErrLong)
			unread(t, strings.TrimSuffix(strings.Repeat(s, n), "\n"), 65, api.ErrLong)
			unread(t, strings.Repeat("\n \n"+s, n), 195, api.ErrLong)
			unread(t, strings.Repeat(s, 64)+strings.Repeat("\n", n)+s, 65+n, api.ErrLong)
		}
	}
}

// TestLineNumbers: all lines count, those without words too.
func TestLineNumbers(t *testing.T) {
	unread(t, "fly", 1, api.ErrLine)
	unread(t, "\nfly", 2, api.ErrLine)
	unread(t, "\n\nfly", 3, api.ErrLine)
	unread(t, " \n  \nfly\n", 3, api.ErrLine)
	unread(t, "step\nstep 1", 2, api.ErrLine)
	unread(t, "step\n\nstep\n \nfly\nfly\n", 5, api.ErrLine)
	for _, n := range []int{1, 9, 64, 65, 100, 1000, 1 << 17} {
		unread(t, strings.Repeat("\n", n)+"fly", n+1, api.ErrLine)
		unread(t, "step\n"+strings.Repeat(" \n", n)+"fly\n", n+2, api.ErrLine)
	}
}

// TestFirstLine: the first line with an error is told, whatever stands behind it.
func TestFirstLine(t *testing.T) {
	unread(t, "fly\nstep 1\n", 1, api.ErrLine)
	unread(t, "step 1\nfly\n", 1, api.ErrLine)
	for k := range 64 {
		l := slices.Repeat([]string{"step"}, 100)
		l[k] = "fly"
		unread(t, strings.Join(l, "\n"), k+1, api.ErrLine)
		l[90] = "step 1"
		unread(t, strings.Join(l, "\n"), k+1, api.ErrLine)
	}
}

// TestThe65th: a line behind 64 instructions that is none is no 65th one; ErrLine is the error that the chapter names first.
func TestThe65th(t *testing.T) {
	full := strings.Repeat("step\n", 64)
	for _, wrong := range []string{"fly", "step 1", "STEP", "move 1 256", "const 1 01", "const 1 '6", "\r"} {
		unread(t, full+wrong, 65, api.ErrLine)
		unread(t, full+wrong+"\nstep\n", 65, api.ErrLine)
		unread(t, full+"\n \n"+wrong, 67, api.ErrLine)
		unread(t, full+"step\n"+wrong, 65, api.ErrLong)
		unread(t, full+"\nstep\n"+wrong, 66, api.ErrLong)
	}
	read(t, full+"\n   \n", slices.Repeat([]api.Inst{{Op: api.Step}}, 64))
}

// TestMemory: nothing that is handed in is changed, and what is answered is the caller's own.
func TestMemory(t *testing.T) {
	l := []api.Inst{{Op: api.Const, A: 2, V: str("hi")}, {Op: api.Add, A: 1, B: 2, C: 3}, {Op: api.Done, A: 2}}
	kept := slices.Clone(l)
	s, e := text.Write(l)
	if e != api.OK {
		t.Fatal(e)
	}
	for range 2 {
		m, n, e := text.Read(s)
		if e != api.OK || n != 0 || !slices.Equal(m, kept) {
			t.Fatalf("%v, line %d, error %d", m, n, e)
		}
		clear(m)
	}
	if !slices.Equal(l, kept) {
		t.Errorf("%v", l)
	}
}
