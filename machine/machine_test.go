package machine_test

import (
	"math"
	"reflect"
	"slices"
	"strings"
	"testing"

	"factotum/api"
	"factotum/machine"
	"factotum/text"
)

func num(n int64) api.Value { return api.Value{Kind: api.Int, N: n} }

func str(s string) api.Value { return api.Value{Kind: api.Text, S: s} }

// wrong are values that may not be a register's, of each sort.
var wrong = []api.Value{
	{},
	{N: 1},
	{S: "a"},
	{Kind: api.Int, S: "a"},
	{Kind: api.Int, N: 5, S: "\x00"},
	{Kind: api.Text, N: 1},
	{Kind: api.Text, N: -1, S: "a"},
	{Kind: 3},
	{Kind: -1, N: 1},
	{Kind: 257},
	{Kind: math.MinInt},
	{Kind: math.MaxInt, S: "a"},
	str("0123456789a"),
	str(strings.Repeat("a", 1<<16)),
}

// right are values that may be a register's, those at edges among them, each ahead of those behind it.
var right = []api.Value{
	num(math.MinInt64), num(math.MinInt64 + 1), num(-2), num(-1), num(0), num(1), num(2), num(255), num(math.MaxInt64 - 1), num(math.MaxInt64),
	str(""), str("\x00"), str("\x00\x00"), str("\x01"), str("0"), str("012345678"), str("0123456789"), str("1"), str("a"), str("a\x00"), str("aa"), str("ab"), str("b"), str("\xff"),
}

// prog is a program, written as layer 14 reads it; ; stands between lines.
func prog(t *testing.T, s string) []api.Inst {
	t.Helper()
	l, n, e := text.Read(strings.ReplaceAll(s, ";", "\n"))
	if e != api.OK {
		t.Fatalf("%s: line %d, error %d", s, n, e)
	}
	return l
}

// regs is a frame at pc with these as the first registers, and the number 0 as the others.
func regs(pc int, l ...api.Value) api.Frame {
	for len(l) < 6 {
		l = append(l, num(0))
	}
	return api.Frame{Pc: pc, Regs: l}
}

// alike says whether effects are the same, with an empty list as good as none.
func alike(a, b api.Effects) bool {
	if !slices.Equal(a.Puts, b.Puts) || !slices.Equal(a.Outs, b.Outs) || !slices.Equal(a.Kids, b.Kids) {
		return false
	}
	return a.Sleep == b.Sleep && a.End == b.End && a.Value == b.Value && a.Frame.Pc == b.Frame.Pc && slices.Equal(a.Frame.Regs, b.Frame.Regs)
}

// run is the effects of a program that may be run, of a frame that may be.
func run(t *testing.T, s string, f api.Frame, table machine.Looker) api.Effects {
	t.Helper()
	x, e := machine.Run(prog(t, s), f, table)
	if e != api.OK {
		t.Errorf("%s: error %d", s, e)
	}
	return x
}

// does holds the effects of a step against what they should be.
func does(t *testing.T, s string, f api.Frame, table machine.Looker, want api.Effects) {
	t.Helper()
	if x := run(t, s, f, table); !alike(x, want) {
		t.Errorf("%s: of %v: %+v, not %+v", s, f, x, want)
	}
}

// well is the effects of a step that does nothing but to end with a value.
func well(v api.Value) api.Effects { return api.Effects{End: api.Well, Value: v} }

// spent is the effects of a step that asks for what may not be.
var spent = api.Effects{End: api.Spent}

// table is entries of a key and a value each, one behind the other.
func table(l ...api.Value) machine.Table {
	var t machine.Table
	for k := 0; k < len(l); k += 2 {
		t = append(t, api.Write{Key: l[k], Value: l[k+1]})
	}
	return t
}

func TestExample(t *testing.T) {
	s := "const 1 2;add 0 0 1;step;done 0"
	want := api.Effects{End: api.Goes, Frame: regs(3, num(7), num(2))}
	does(t, s, machine.First(num(5)), nil, want)
	does(t, s, want.Frame, nil, well(num(7)))
}

func TestFirst(t *testing.T) {
	l := prog(t, "done 0")
	for _, v := range right {
		f := machine.First(v)
		if f.Pc != 0 || !slices.Equal(f.Regs, []api.Value{v, num(0), num(0), num(0), num(0), num(0)}) {
			t.Errorf("%v: %v", v, f)
		}
		if !machine.Right(l, f) {
			t.Errorf("%v: the first frame may not be", v)
		}
		does(t, "done 0", f, nil, well(v))
		does(t, "done 5", f, nil, well(num(0)))
	}
	for _, v := range wrong {
		f := machine.First(v)
		if f.Pc != 0 || !slices.Equal(f.Regs, []api.Value{v, num(0), num(0), num(0), num(0), num(0)}) {
			t.Errorf("%v: %v", v, f)
		}
		refused(t, l, f)
	}
	// Each answer is new memory.
	machine.First(num(1)).Regs[1] = num(9)
	if f := machine.First(num(1)); f.Regs[1] != num(0) {
		t.Error(f)
	}
}

// refused holds that a program and a frame don't go together.
func refused(t *testing.T, l []api.Inst, f api.Frame) {
	t.Helper()
	if machine.Right(l, f) {
		t.Errorf("%v: the frame %v may be", l, f)
	}
	for _, table := range []machine.Looker{nil, machine.Table{}, table(num(0), num(1))} {
		if x, e := machine.Run(l, f, table); e != api.ErrField || !alike(x, api.Effects{}) {
			t.Errorf("%v: of %v: %+v, error %d", l, f, x, e)
		}
	}
}

// taken holds that they do.
func taken(t *testing.T, l []api.Inst, f api.Frame) {
	t.Helper()
	if !machine.Right(l, f) {
		t.Errorf("%v: the frame %v may not be", l, f)
	}
	if _, e := machine.Run(l, f, nil); e != api.OK {
		t.Errorf("%v: of %v: error %d", l, f, e)
	}
}

func TestRightOfPc(t *testing.T) {
	for _, n := range []int{1, 2, 3, 63, 64} {
		l := slices.Repeat(prog(t, "done 0"), n)
		for _, pc := range []int{math.MinInt, math.MinInt32, -256, -n, -2, -1} {
			refused(t, l, regs(pc))
		}
		for pc := range n {
			taken(t, l, regs(pc))
		}
		for _, pc := range []int{n, n + 1, 64, 65, 256, 1 << 32, math.MaxInt} {
			refused(t, l, regs(pc))
		}
	}
}

func TestRightOfRegisters(t *testing.T) {
	l := prog(t, "done 0")
	for n := range 9 {
		f := api.Frame{Regs: slices.Repeat([]api.Value{num(0)}, n)}
		if n == 6 {
			taken(t, l, f)
		} else {
			refused(t, l, f)
		}
	}
	refused(t, l, api.Frame{})
	refused(t, l, api.Frame{Regs: make([]api.Value, 6)})
	for k := range 6 {
		for _, v := range right {
			f := regs(0)
			f.Regs[k] = v
			taken(t, l, f)
		}
		for _, v := range wrong {
			f := regs(0)
			f.Regs[k] = v
			refused(t, l, f)
		}
	}
	for n := range 30 {
		f := machine.First(str(strings.Repeat("\xff", n)))
		if n <= 10 {
			taken(t, l, f)
		} else {
			refused(t, l, f)
		}
	}
}

// TestProgramsThatMayNotBeRun: for each rule of layer 15.
func TestProgramsThatMayNotBeRun(t *testing.T) {
	done := api.Inst{Op: api.Done}
	f := machine.First(num(1))
	refused(t, nil, f)
	refused(t, []api.Inst{}, f)
	refused(t, nil, api.Frame{})
	refused(t, slices.Repeat([]api.Inst{done}, 65), f)
	for _, i := range []api.Inst{
		{}, {Op: -1}, {Op: 20}, {Op: math.MaxInt}, {Op: math.MinInt},
		{Op: api.Const}, {Op: api.Const, V: str("0123456789a")}, {Op: api.Const, V: api.Value{Kind: api.Int, S: "a"}},
		{Op: api.Done, A: 6}, {Op: api.Done, A: -1}, {Op: api.Done, B: 1}, {Op: api.Done, V: num(0)},
		{Op: api.Move, B: 6}, {Op: api.Add, C: 6}, {Op: api.Child, A: 256}, {Op: api.Unless, B: 6},
		{Op: api.Jump, A: 3}, {Op: api.Jump, A: -1}, {Op: api.Unless, A: 3},
	} {
		refused(t, []api.Inst{i, done}, f)
		refused(t, []api.Inst{done, i}, f)
		// Nobody comes to it.
		refused(t, []api.Inst{done, i, done}, f)
	}
	for _, i := range prog(t, "const 0 1;move 0 1;unless 0 0;load 0 1;store 0 1;drop 0;emit 0;sleep 0;child 0 0 0;step") {
		refused(t, []api.Inst{i}, f)
		refused(t, []api.Inst{done, i}, f)
	}
}

func TestConstAndMove(t *testing.T) {
	for _, v := range right {
		for a := range 6 {
			l := []api.Inst{{Op: api.Const, A: a, V: v}, {Op: api.Step}, {Op: api.Done}}
			want := regs(2, num(10), num(11), num(12), num(13), num(14), num(15))
			f := regs(0, want.Regs...)
			f.Regs = slices.Clone(f.Regs)
			want.Regs[a] = v
			if x, e := machine.Run(l, f, nil); e != api.OK || !alike(x, api.Effects{Frame: want}) {
				t.Errorf("%v: %+v, error %d", l, x, e)
			}
			for b := range 6 {
				l[0] = api.Inst{Op: api.Move, A: b, B: a}
				f := regs(0, want.Regs...)
				moved := slices.Clone(want.Regs)
				moved[b] = v
				if x, e := machine.Run(l, f, nil); e != api.OK || !alike(x, api.Effects{Frame: regs(2, moved...)}) {
					t.Errorf("%v: %+v, error %d", l, x, e)
				}
			}
		}
	}
}

// of holds what an Op makes of two registers, whichever ones they are, and whether they are the one that it sets.
func of(t *testing.T, op string, b, c api.Value, want api.Effects) {
	t.Helper()
	does(t, op+" 2 0 1;done 2", regs(0, b, c, num(77)), nil, want)
	does(t, op+" 0 0 1;done 0", regs(0, b, c), nil, want)
	does(t, op+" 1 0 1;done 1", regs(0, b, c), nil, want)
	does(t, op+" 0 5 4;done 0", regs(0, num(7), num(7), num(7), num(7), c, b), nil, want)
	if b == c {
		does(t, op+" 3 3 3;done 3", regs(0, num(7), num(7), num(7), b), nil, want)
	}
}

func TestNumbers(t *testing.T) {
	const least, most = math.MinInt64, math.MaxInt64
	for _, x := range []struct {
		b, c, add, sub, mul int64
	}{
		{0, 0, 0, 0, 0},
		{2, 3, 5, -1, 6},
		{3, 2, 5, 1, 6},
		{-2, 3, 1, -5, -6},
		{-2, -3, -5, 1, 6},
		{7, 0, 7, 7, 0},
		{0, 7, 7, -7, 0},
		{most, 0, most, most, 0},
		{most, 1, least, most - 1, most},
		{1, most, least, -(most - 1), most},
		{most, -1, most - 1, least, -most},
		{most, most, -2, 0, 1},
		{least, 1, least + 1, most, least},
		{least, -1, most, least + 1, least},
		{-1, least, most, most, least},
		{0, least, least, least, 0},
		{least, 0, least, least, 0},
		{least, least, 0, 0, 0},
		{most, least, -1, -1, least},
		{1 << 32, 1 << 31, 1<<32 + 1<<31, 1 << 31, least},
		{1 << 32, 1 << 32, 1 << 33, 0, 0},
		{1<<62 + 1, 4, 1<<62 + 5, 1<<62 - 3, 4},
	} {
		of(t, "add", num(x.b), num(x.c), well(num(x.add)))
		of(t, "sub", num(x.b), num(x.c), well(num(x.sub)))
		of(t, "mul", num(x.b), num(x.c), well(num(x.mul)))
	}
}

func TestNumbersOfTexts(t *testing.T) {
	for _, op := range []string{"add", "sub", "mul"} {
		for _, n := range []int64{0, 1, -1, math.MaxInt64} {
			for _, s := range []string{"", "1", "a", "0123456789"} {
				of(t, op, num(n), str(s), spent)
				of(t, op, str(s), num(n), spent)
				of(t, op, str(s), str(s), spent)
			}
		}
	}
}

func TestCat(t *testing.T) {
	const s = "0123\x00\xff6789ab"
	for n := range 11 {
		for m := range 11 {
			b, c := s[:n], s[12-m:]
			want := spent
			if n+m <= 10 {
				want = well(str(b + c))
			}
			of(t, "cat", str(b), str(c), want)
		}
	}
	of(t, "cat", str("ab"), str("cd"), well(str("abcd")))
	of(t, "cat", str("01234"), str("01234"), well(str("0123401234")))
	of(t, "cat", str("012345"), str("01234"), spent)
	of(t, "cat", num(0), str(""), spent)
	of(t, "cat", str(""), num(0), spent)
	of(t, "cat", num(1), num(2), spent)
}

// TestLessAndSame: right is in order.
func TestLessAndSame(t *testing.T) {
	yes := map[bool]api.Effects{true: well(num(1)), false: well(num(0))}
	for n, b := range right {
		for m, c := range right {
			of(t, "less", b, c, yes[n < m])
			of(t, "same", b, c, yes[n == m])
		}
	}
}

func TestJump(t *testing.T) {
	does(t, "jump 2;fail 0;done 1", regs(0, num(1), num(2)), nil, well(num(2)))
	does(t, "jump 1;done 0", regs(0, num(1)), nil, well(num(1)))
	does(t, "jump 3;done 0;fail 0;jump 1", regs(0, num(1)), nil, well(num(1)))
	does(t, "done 0;fail 0;jump 0", regs(2, num(1)), nil, well(num(1)))
	does(t, "jump 0", regs(0), nil, spent)
	does(t, "step;jump 0", regs(0, num(3)), nil, api.Effects{Frame: regs(1, num(3))})
	does(t, "step;jump 0", regs(1, num(3)), nil, api.Effects{Frame: regs(1, num(3))})
}

// TestUnless: of all values only the number 0 leads away.
func TestUnless(t *testing.T) {
	for _, v := range right {
		want := well(num(2))
		if v == num(0) {
			want = well(num(3))
		}
		does(t, "unless 2 0;done 1;done 2", regs(0, v, num(2), num(3)), nil, want)
		does(t, "jump 2;done 2;unless 1 5;done 1", regs(0, num(1), num(2), num(3), num(1), num(1), v), nil, want)
		does(t, "unless 1 0;done 0", regs(0, v), nil, well(v))
	}
}

func TestLoadFromTheTable(t *testing.T) {
	for k, key := range right {
		for _, v := range right {
			other := right[(k+1)%len(right)]
			tb := table(other, num(5), key, v)
			does(t, "load 1 0;done 1", regs(0, key, num(9)), tb, well(v))
			does(t, "load 0 0;done 0", regs(0, key), tb, well(v))
			does(t, "load 1 0;done 1", regs(0, other, num(9)), tb, well(num(5)))
		}
		none := well(num(0))
		does(t, "load 1 0;done 1", regs(0, key, num(9)), nil, none)
		does(t, "load 1 0;done 1", regs(0, key, str("a")), machine.Table{}, none)
		does(t, "load 1 0;done 1", regs(0, key, num(9)), machine.Table(nil), none)
		does(t, "load 1 0;done 1", regs(0, key, num(9)), table(num(7), num(8)), none)
		does(t, "load 1 0;done 1", regs(0, key, num(9)), table(key, num(5)).Has([]api.Write{{Key: key, Value: num(4), Gone: true}}), none)
		for _, v := range wrong {
			does(t, "load 1 0;done 2", regs(0, key), table(key, v), spent)
			// What has been covered plays no part, nor has a value that nobody asks for.
			does(t, "load 1 0;done 1", regs(0, key), table(key, v, key, num(4)), well(num(4)))
			does(t, "load 1 0;done 1", regs(0, key), table(key, v).Has([]api.Write{{Key: key, Gone: true}}), none)
			does(t, "done 0", regs(0, key), table(key, v), well(key))
			does(t, "store 0 1;load 2 0;done 2", regs(0, key, num(4)), table(key, v), api.Effects{End: api.Well, Value: num(4), Puts: table(key, num(4))})
		}
	}
}

func TestLoadFromTheStep(t *testing.T) {
	gone := func(k api.Value) api.Write { return api.Write{Key: k, Gone: true} }
	for _, k := range right {
		for _, v := range right {
			tb := table(k, num(30))
			f := regs(0, k, v, num(9))
			// What this step did goes ahead of what the table has, and only of this key.
			does(t, "store 0 1;load 2 0;done 2", f, tb, api.Effects{End: api.Well, Value: v, Puts: table(k, v)})
			does(t, "store 0 1;store 0 2;load 3 0;done 3", f, tb, api.Effects{End: api.Well, Value: num(9), Puts: table(k, num(9))})
			does(t, "load 2 0;store 0 1;done 2", f, tb, api.Effects{End: api.Well, Value: num(30), Puts: table(k, v)})
			does(t, "drop 0;load 2 0;done 2", f, tb, api.Effects{End: api.Well, Value: num(0), Puts: []api.Write{gone(k)}})
			does(t, "store 0 1;drop 0;load 2 0;done 2", f, tb, api.Effects{End: api.Well, Value: num(0), Puts: []api.Write{gone(k)}})
			does(t, "drop 0;store 0 1;load 2 0;done 2", f, tb, api.Effects{End: api.Well, Value: v, Puts: table(k, v)})
			does(t, "store 0 1;load 2 0;done 2", f, nil, api.Effects{End: api.Well, Value: v, Puts: table(k, v)})
			if k != v {
				does(t, "store 1 2;load 2 0;done 2", f, tb, api.Effects{End: api.Well, Value: num(30), Puts: table(v, num(9))})
				does(t, "drop 1;load 2 0;done 2", f, tb, api.Effects{End: api.Well, Value: num(30), Puts: []api.Write{gone(v)}})
			}
		}
	}
}

// TestStepsDoNotSeeEachOther: what a step did is there for the next one only if the table has it.
func TestStepsDoNotSeeEachOther(t *testing.T) {
	s := "store 0 1;step;load 2 0;done 2"
	x := run(t, s, regs(0, str("k"), num(5)), nil)
	does(t, s, x.Frame, nil, well(num(0)))
	does(t, s, x.Frame, machine.Table(nil).Has(x.Puts), well(num(5)))
}

func TestOrderOfPuts(t *testing.T) {
	a, b, c := str("c"), num(0), str("")
	f := regs(0, a, b, c, num(1), num(2))
	does(t, "store 0 3;store 1 3;store 2 3;done 3", f, nil, api.Effects{End: api.Well, Value: num(1), Puts: table(a, num(1), b, num(1), c, num(1))})
	does(t, "store 2 3;store 0 3;store 1 3;done 3", f, nil, api.Effects{End: api.Well, Value: num(1), Puts: table(c, num(1), a, num(1), b, num(1))})
	does(t, "store 0 3;store 1 3;store 0 4;done 3", f, nil, api.Effects{End: api.Well, Value: num(1), Puts: table(a, num(2), b, num(1))})
	does(t, "drop 0;store 1 3;store 0 4;drop 1;store 2 2;done 3", f, table(a, num(5)), api.Effects{End: api.Well, Value: num(1), Puts: []api.Write{
		{Key: a, Value: num(2)}, {Key: b, Gone: true}, {Key: c, Value: c},
	}})
	does(t, "store 0 3;drop 0;store 0 4;drop 0;step;done 0", f, nil, api.Effects{Frame: regs(5, f.Regs...), Puts: []api.Write{{Key: a, Gone: true}}})
	// To load is to do nothing, and what is stored as it was is done nevertheless.
	does(t, "load 5 1;store 0 3;load 5 0;fail 3", f, table(a, num(1)), api.Effects{End: api.Badly, Value: num(1), Puts: table(a, num(1))})
}

// keysOf is a program that does something to n keys, 100 and on, again and again where it says so, and ends.
func keysOf(n int, each, last string) string {
	var b strings.Builder
	for k := range n {
		b.WriteString("const 0 " + string([]byte{'1', '0', byte('0' + k)}) + ";" + each + ";")
	}
	return b.String() + last
}

func TestNinthKey(t *testing.T) {
	var eight, dropped machine.Table
	for k := range 8 {
		eight = append(eight, api.Write{Key: num(int64(100 + k)), Value: num(1)})
		dropped = append(dropped, api.Write{Key: num(int64(100 + k)), Gone: true})
	}
	f := regs(0, num(0), num(1))
	for n := range 9 {
		does(t, keysOf(n, "store 0 1", "done 1"), f, nil, api.Effects{End: api.Well, Value: num(1), Puts: eight[:n]})
		does(t, keysOf(n, "drop 0", "done 1"), f, nil, api.Effects{End: api.Well, Value: num(1), Puts: dropped[:n]})
		does(t, keysOf(n, "store 0 1;drop 0;store 0 1", "done 1"), f, nil, api.Effects{End: api.Well, Value: num(1), Puts: eight[:n]})
	}
	for _, each := range []string{"store 0 1", "drop 0", "store 0 1;drop 0"} {
		does(t, keysOf(9, each, "done 1"), f, nil, spent)
		does(t, keysOf(9, each, "step;done 1"), f, nil, spent)
		does(t, keysOf(9, each, "fail 1"), f, eight, spent)
	}
	// The same key again is no new one; one that looks like it is.
	for _, again := range []string{"100", "103", "107"} {
		x := run(t, keysOf(8, "store 0 1", "const 0 "+again+";const 1 2;store 0 1;done 1"), f, nil)
		if x.End != api.Well || len(x.Puts) != 8 || x.Puts[again[2]-'0'].Value != num(2) {
			t.Errorf("%+v", x)
		}
		x = run(t, keysOf(8, "store 0 1", "const 0 "+again+";drop 0;done 1"), f, nil)
		if x.End != api.Well || len(x.Puts) != 8 || !x.Puts[again[2]-'0'].Gone {
			t.Errorf("%+v", x)
		}
	}
	does(t, keysOf(8, "store 0 1", "const 0 '313030;store 0 1;done 1"), f, nil, spent)
	does(t, keysOf(8, "store 0 1", "const 0 108;load 1 0;done 1"), f, table(num(108), num(6)), api.Effects{End: api.Well, Value: num(6), Puts: eight})
	does(t, keysOf(8, "drop 0", "const 0 108;drop 0;done 1"), f, nil, spent)
}

func TestEmit(t *testing.T) {
	f := regs(0, str("a"), num(1), num(2))
	outs := []api.Value{str("a"), num(2), num(1), str("a")}
	emits := "emit 0;emit 2;emit 1;emit 0;"
	for n := range 5 {
		s := strings.Join(strings.SplitAfter(emits, ";")[:n], "")
		does(t, s+"done 1", f, nil, api.Effects{End: api.Well, Value: num(1), Outs: outs[:n]})
		does(t, s+"fail 1", f, nil, api.Effects{End: api.Badly, Value: num(1), Outs: outs[:n]})
		does(t, s+"step;done 1", f, nil, api.Effects{Frame: regs(n+1, f.Regs...), Outs: outs[:n]})
	}
	does(t, emits+"emit 0;done 1", f, nil, spent)
	does(t, emits+"emit 1;step;done 1", f, nil, spent)
	does(t, "emit 0;jump 0", f, nil, spent)
	// Each goes out as it is then.
	does(t, "emit 1;move 1 0;emit 1;done 2", f, nil, api.Effects{End: api.Well, Value: num(2), Outs: []api.Value{num(1), str("a")}})
}

func TestSleep(t *testing.T) {
	for _, n := range []int64{0, 1, 2, 999999, 1000000} {
		does(t, "sleep 0;done 1", regs(0, num(n)), nil, api.Effects{End: api.Well, Value: num(0), Sleep: n})
		does(t, "sleep 5;fail 1", regs(0, num(9), num(0), num(9), num(9), num(9), num(n)), nil, api.Effects{End: api.Badly, Value: num(0), Sleep: n})
		does(t, "sleep 0;step;done 0", regs(0, num(n)), nil, api.Effects{Frame: regs(2, num(n)), Sleep: n})
		// The last one holds, also if it says less.
		does(t, "sleep 1;sleep 0;done 2", regs(0, num(n), num(7)), nil, api.Effects{End: api.Well, Value: num(0), Sleep: n})
		does(t, "sleep 0;sleep 1;done 2", regs(0, num(n), num(7)), nil, api.Effects{End: api.Well, Value: num(0), Sleep: 7})
	}
	for _, v := range []api.Value{num(-1), num(1000001), num(-1000000), num(math.MinInt64), num(math.MaxInt64), num(1 << 32), str(""), str("0"), str("5")} {
		does(t, "sleep 0;done 1", regs(0, v), nil, spent)
		does(t, "sleep 0;step;done 1", regs(0, v), nil, spent)
		does(t, "sleep 0;sleep 1;done 1", regs(0, v), nil, spent)
		does(t, "sleep 1;sleep 0;done 1", regs(0, v), nil, spent)
	}
}

func TestChild(t *testing.T) {
	f := regs(0, str("a"), num(1), num(2))
	kids := []api.Spawn{{Program: 255, Arg: num(1), Key: str("a")}, {Program: 0, Arg: str("a"), Key: num(2)}}
	does(t, "child 255 1 0;done 1", f, nil, api.Effects{End: api.Well, Value: num(1), Kids: kids[:1]})
	does(t, "child 255 1 0;child 0 0 2;fail 1", f, nil, api.Effects{End: api.Badly, Value: num(1), Kids: kids})
	does(t, "child 0 0 2;child 255 1 0;step;done 1", f, nil, api.Effects{Frame: regs(3, f.Regs...), Kids: []api.Spawn{kids[1], kids[0]}})
	does(t, "child 255 1 0;child 255 1 0;done 1", f, nil, api.Effects{End: api.Well, Value: num(1), Kids: []api.Spawn{kids[0], kids[0]}})
	does(t, "child 0 0 0;child 0 0 0;child 0 0 0;done 1", f, nil, spent)
	does(t, "child 1 0 0;child 2 1 1;child 3 2 2;step;done 1", f, nil, spent)
	// Each starts with what is there then.
	does(t, "child 6 1 0;move 1 2;child 7 1 0;done 5", f, nil, api.Effects{End: api.Well, Value: num(0), Kids: []api.Spawn{{Program: 6, Arg: num(1), Key: str("a")}, {Program: 7, Arg: num(2), Key: str("a")}}})
}

func TestEnds(t *testing.T) {
	for _, v := range right {
		for k := range 6 {
			f := regs(0, num(10), num(11), num(12), num(13), num(14), num(15))
			f.Regs[k] = v
			end := api.Inst{Op: api.Done, A: k}
			l := []api.Inst{end, {Op: api.Fail, A: k}, {Op: api.Step}, end}
			for pc, want := range []api.Effects{
				{End: api.Well, Value: v},
				{End: api.Badly, Value: v},
				{End: api.Goes, Frame: api.Frame{Pc: 3, Regs: f.Regs}},
				{End: api.Well, Value: v},
			} {
				x, e := machine.Run(l, api.Frame{Pc: pc, Regs: f.Regs}, nil)
				if e != api.OK || !alike(x, want) {
					t.Errorf("%v at %d: %+v, error %d", v, pc, x, e)
				}
			}
		}
	}
	// What stands behind an end isn't done.
	does(t, "done 0;emit 0;done 1", regs(0), nil, well(num(0)))
	does(t, "step;emit 0;done 1", regs(0), nil, api.Effects{Frame: regs(1)})
}

// turns is a program that does p + 3n + 2 instructions, with n from 1 on, and ends with the last of them; its circle is as short as can be.
func turns(n int64, p int, end string) []api.Inst {
	l := slices.Repeat([]api.Inst{{Op: api.Move}}, p)
	l = append(l,
		api.Inst{Op: api.Const, A: 1, V: num(n)},
		api.Inst{Op: api.Const, A: 2, V: num(1)},
		api.Inst{Op: api.Sub, A: 1, B: 1, C: 2},
		api.Inst{Op: api.Unless, A: p + 5, B: 1},
		api.Inst{Op: api.Jump, A: p + 2})
	ends := map[string][]api.Inst{"done": {{Op: api.Done}}, "fail": {{Op: api.Fail}}, "step": {{Op: api.Step}, {Op: api.Done}}}
	return append(l, ends[end]...)
}

func TestFuel(t *testing.T) {
	for n := int64(50); n <= 70; n++ {
		for p := range 40 {
			for _, end := range []string{"done", "fail", "step"} {
				want := spent
				if int64(p)+3*n+2 <= 200 {
					want = map[string]api.Effects{
						"done": well(num(5)),
						"fail": {End: api.Badly, Value: num(5)},
						"step": {Frame: regs(p+6, num(5), num(0), num(1))},
					}[end]
				}
				l := turns(n, p, end)
				if x, e := machine.Run(l, machine.First(num(5)), nil); e != api.OK || !alike(x, want) {
					t.Fatalf("%d and %d: %+v, error %d", n, p, x, e)
				}
				// The next step has all of it again.
				if end == "step" && want.End == api.Goes {
					if x, e := machine.Run(l, want.Frame, nil); e != api.OK || !alike(x, well(num(5))) {
						t.Fatalf("%d and %d: behind the step %+v, error %d", n, p, x, e)
					}
				}
			}
		}
	}
	// 66 turns and none ahead are 200 instructions, and one more is 201.
	for n, want := range []api.Effects{well(num(5)), spent} {
		if x, _ := machine.Run(turns(66, n, "done"), machine.First(num(5)), nil); !alike(x, want) {
			t.Errorf("%d more: %+v", n, x)
		}
	}
}

// TestCircles: those that never end, with all that they did.
func TestCircles(t *testing.T) {
	for _, s := range []string{
		"jump 0",
		"jump 1;jump 0",
		"unless 0 5;jump 0",
		"emit 0;store 0 0;child 0 0 0;sleep 5;jump 5;jump 5",
		"store 0 1;drop 0;load 2 0;jump 0",
		"sleep 5;jump 0",
		"add 0 0 0;unless 2 1;unless 0 1;fail 0",
	} {
		does(t, s, machine.First(num(1)), table(num(1), num(2)), spent)
	}
}

// TestSpentHasNothingElse: whatever was done ahead of what may not be.
func TestSpentHasNothingElse(t *testing.T) {
	all := "const 1 7;const 2 '61;store 1 1;drop 2;emit 1;emit 2;child 3 1 2;sleep 1;"
	f := machine.First(num(5))
	want := api.Effects{
		Puts:  []api.Write{{Key: num(7), Value: num(7)}, {Key: str("a"), Gone: true}},
		Outs:  []api.Value{num(7), str("a")},
		Kids:  []api.Spawn{{Program: 3, Arg: num(7), Key: str("a")}},
		Sleep: 7,
		End:   api.Well,
		Value: num(5),
	}
	does(t, all+"done 0", f, nil, want)
	want.End = api.Badly
	does(t, all+"fail 0", f, nil, want)
	want.End, want.Value, want.Frame = api.Goes, api.Value{}, regs(9, num(5), num(7), str("a"))
	does(t, all+"step;done 0", f, nil, want)
	for _, s := range []string{
		"add 0 1 2", "sub 0 2 1", "mul 0 2 2", "cat 0 1 2", "sleep 2", "emit 1;emit 1;emit 1", "child 0 0 0;child 0 0 0",
		"load 0 0", "const 0 -1;sleep 0", "jump 8", "const 0 '3031323334;cat 0 0 0;cat 0 0 2",
	} {
		x, e := machine.Run(prog(t, all+s+";done 0"), f, table(num(5), api.Value{}))
		if e != api.OK || !reflect.DeepEqual(x, spent) {
			t.Errorf("%s: %+v, error %d", s, x, e)
		}
	}
}

// TestWhatMayNotBeIsNotDone: what nobody comes to does no harm.
func TestWhatMayNotBeIsNotDone(t *testing.T) {
	f := regs(0, num(1), str("a"))
	for _, s := range []string{"add 0 0 1", "cat 0 0 1", "sleep 1", "load 0 0", "emit 0;emit 0;emit 0;emit 0;emit 0", "child 0 0 0;child 0 0 0;child 0 0 0"} {
		does(t, "done 0;"+s+";done 0", f, table(num(1), api.Value{}), well(num(1)))
	}
}

func TestLook(t *testing.T) {
	gone := func(k, v api.Value) api.Write { return api.Write{Key: k, Value: v, Gone: true} }
	looks := func(l machine.Table, k, want api.Value, there bool) {
		t.Helper()
		if v, yes := l.Look(k); v != want || yes != there {
			t.Errorf("%v: of %v %v, %v, not %v, %v", l, k, v, yes, want, there)
		}
	}
	a, b := num(1), str("a")
	looks(nil, a, api.Value{}, false)
	looks(machine.Table{}, a, api.Value{}, false)
	looks(table(a, num(5)), a, num(5), true)
	looks(table(a, num(5)), b, api.Value{}, false)
	looks(table(a, num(5), a, num(6)), a, num(6), true)
	looks(table(a, num(5), b, num(7), a, num(6)), a, num(6), true)
	looks(table(a, num(5), a, num(6), b, num(7)), a, num(6), true)
	looks(table(a, num(0)), a, num(0), true)
	// Gone, and there again.
	looks(machine.Table{gone(a, num(5))}, a, api.Value{}, false)
	looks(table(a, num(5)).Has([]api.Write{gone(a, api.Value{})}), a, api.Value{}, false)
	looks(table(a, num(5)).Has([]api.Write{gone(a, num(6))}), a, api.Value{}, false)
	looks(table(a, num(5)).Has([]api.Write{gone(b, num(6))}), a, num(5), true)
	looks(machine.Table{gone(a, num(5))}.Has(table(a, num(6))), a, num(6), true)
	looks(machine.Table{gone(a, num(5)), gone(a, num(5))}.Has(table(b, num(6))), a, api.Value{}, false)
	looks(table(a, num(5)).Has([]api.Write{gone(a, num(6)), {Key: a, Value: num(7)}, gone(b, num(8))}), a, num(7), true)
	// Values that look alike, and values that may not be, which are keys and values like others here.
	alike := append(slices.Concat(wrong, right), api.Value{Kind: 3, N: 1, S: "a"}, api.Value{N: 1, S: "a"})
	var all machine.Table
	for n, k := range alike {
		all = append(all, api.Write{Key: k, Value: num(int64(n))})
	}
	for n, k := range alike {
		looks(all, k, num(int64(n)), true)
		looks(slices.Concat(all[:n], all[n+1:]), k, api.Value{}, false)
		looks(table(a, k), a, k, true)
	}
}

func TestHas(t *testing.T) {
	a, b := table(num(1), num(5), num(2), num(6)), table(num(1), num(7), str(""), num(8))
	for _, x := range []struct {
		t    machine.Table
		l    []api.Write
		want machine.Table
	}{
		{nil, nil, nil},
		{machine.Table{}, []api.Write{}, nil},
		{a, nil, a},
		{nil, a, a},
		{a, b, table(num(1), num(5), num(2), num(6), num(1), num(7), str(""), num(8))},
		{b, a, table(num(1), num(7), str(""), num(8), num(1), num(5), num(2), num(6))},
		{a, a, table(num(1), num(5), num(2), num(6), num(1), num(5), num(2), num(6))},
	} {
		if got := x.t.Has(x.l); !slices.Equal(got, x.want) {
			t.Errorf("%v and %v: %v", x.t, x.l, got)
		}
	}
	// An answer is new memory, also where there is room behind the table.
	room := make(machine.Table, 2, 9)
	copy(room, a)
	one, two := room.Has(b), room.Has(a)
	if !slices.Equal(one[2:], b) || !slices.Equal(two[2:], a) || room[:3][2] != (api.Write{}) {
		t.Errorf("%v, %v, %v", one, two, room[:9])
	}
	one[0].Gone, one[2].Gone = true, true
	whole, none := room.Has(nil), machine.Table(nil).Has(b)
	whole[0].Gone, none[0].Gone = true, true
	if room[0].Gone || b[0].Gone {
		t.Error("an answer shares memory with what was handed in")
	}
}

// odd is a table of another make, which has a value also beside a false.
type odd struct{ v api.Value }

func (o *odd) Look(k api.Value) (api.Value, bool) { return o.v, k == num(1) }

// counts is a table that keeps which keys were asked for.
type counts struct{ asked []api.Value }

func (c *counts) Look(k api.Value) (api.Value, bool) {
	c.asked = append(c.asked, k)
	return num(3), true
}

// fails is a table that panics.
type fails struct{ with any }

func (f fails) Look(api.Value) (api.Value, bool) { panic(f.with) }

func TestTablesOfOtherMakes(t *testing.T) {
	o := &odd{v: str("a")}
	does(t, "load 1 0;done 1", regs(0, num(1)), o, well(str("a")))
	does(t, "load 1 0;done 1", regs(0, num(2)), o, well(num(0)))
	o.v = str("0123456789a")
	does(t, "load 1 0;done 1", regs(0, num(1)), o, spent)
	does(t, "load 1 0;done 1", regs(0, num(2)), o, well(num(0)))
	// It is asked only for what this step did nothing to.
	c := &counts{}
	does(t, "store 0 1;load 2 0;load 3 1;drop 1;load 4 1;add 5 3 2;done 5", regs(0, num(1), num(2)), c, api.Effects{End: api.Well, Value: num(5), Puts: []api.Write{{Key: num(1), Value: num(2)}, {Key: num(2), Gone: true}}})
	if !slices.Equal(c.asked, []api.Value{num(2)}) {
		t.Errorf("asked for %v", c.asked)
	}
}

// TestNoTable: nil of whatever make, and tables that can't be asked.
func TestNoTable(t *testing.T) {
	for _, l := range []machine.Looker{nil, machine.Table(nil), (*machine.Table)(nil), (*odd)(nil), (*counts)(nil), fails{"no"}, fails{nil}, fails{7}} {
		does(t, "done 0", regs(0, num(1)), l, well(num(1)))
		does(t, "load 1 0;done 1", regs(0, num(1), num(9)), l, well(num(0)))
		does(t, "load 0 0;load 0 0;emit 0;step;done 1", regs(0, str("a")), l, api.Effects{Outs: []api.Value{num(0)}, Frame: regs(4)})
		does(t, "store 0 0;load 1 0;done 1", regs(0, num(1)), l, api.Effects{End: api.Well, Value: num(1), Puts: table(num(1), num(1))})
	}
	held := table(num(1), num(4))
	does(t, "load 1 0;done 1", regs(0, num(1)), &held, well(num(4)))
}

// TestMemory: what is handed in stays as it was, and what is answered is its own.
func TestMemory(t *testing.T) {
	l := prog(t, "add 0 0 1;store 0 1;drop 1;store 2 0;emit 0;child 1 0 0;const 3 '61;load 4 2;step;done 0")
	f, tb := regs(0, num(1), num(2), num(3)), table(num(3), num(4), num(2), num(5))
	wasL, wasF, wasT := slices.Clone(l), slices.Clone(f.Regs), slices.Clone(tb)
	x, _ := machine.Run(l, f, tb)
	y, _ := machine.Run(l, f, tb)
	machine.Right(l, f)
	tb.Look(num(3))
	tb.Has(x.Puts)
	if !slices.Equal(l, wasL) || !slices.Equal(f.Regs, wasF) || f.Pc != 0 || !slices.Equal(tb, wasT) {
		t.Error("what was handed in was changed")
	}
	x.Frame.Regs[2], x.Puts[0].Gone, x.Outs[0], x.Kids[0].Program = num(99), true, num(99), 99
	if z, _ := machine.Run(l, f, tb); !alike(y, z) || !slices.Equal(f.Regs, wasF) {
		t.Errorf("%+v, then %+v", y, z)
	}
	// A step that changes no register has a list of its own nevertheless.
	s := prog(t, "step;done 0")
	a, _ := machine.Run(s, f, nil)
	a.Frame.Regs[0] = num(99)
	if f.Regs[0] != num(1) {
		t.Error("the frame shares memory with the one that was handed in")
	}
}
