package check_test

import (
	"math"
	"slices"
	"strings"
	"testing"

	"factotum/api"
	"factotum/check"
)

// ops is what the operands A, B, C of each Op are, by the Ops' numbers: r a register, g an instruction to go on at, p a program.
var ops = []struct {
	name, has string
}{
	1:  {"Const", "r"},
	2:  {"Move", "rr"},
	3:  {"Add", "rrr"},
	4:  {"Sub", "rrr"},
	5:  {"Mul", "rrr"},
	6:  {"Cat", "rrr"},
	7:  {"Less", "rrr"},
	8:  {"Same", "rrr"},
	9:  {"Jump", "g"},
	10: {"Unless", "gr"},
	11: {"Load", "rr"},
	12: {"Store", "rr"},
	13: {"Drop", "r"},
	14: {"Emit", "r"},
	15: {"Sleep", "r"},
	16: {"Child", "prr"},
	17: {"Step", ""},
	18: {"Done", "r"},
	19: {"Fail", "r"},
}

// noOps are numbers of no Op, those that are one's in fewer bits among them.
var noOps = []int{math.MinInt, math.MinInt + 1, math.MinInt32, -256, -19, -10, -9, -1, 0, 20, 21, 127, 128, 255, 256, 257, 265, 266, 272, 1 << 16, 1<<16 + 9, 1<<32 + 9, math.MaxInt32, math.MaxInt - 1, math.MaxInt}

// odd are numbers of all sizes.
var odd = []int{math.MinInt, -1 << 32, -256, -1, 0, 1, 5, 6, 63, 64, 65, 255, 256, 1 << 32, math.MaxInt}

// lasts are the Ops that may be the last one.
var lasts = []int{api.Jump, api.Done, api.Fail}

var (
	done = api.Inst{Op: api.Done}
	step = api.Inst{Op: api.Step}
)

func num(n int64) api.Value { return api.Value{Kind: api.Int, N: n} }

func jump(to int) api.Inst { return api.Inst{Op: api.Jump, A: to} }

func unless(to int) api.Inst { return api.Inst{Op: api.Unless, A: to} }

// inst is an instruction that may be, with 0 as each operand.
func inst(op int) api.Inst {
	i := api.Inst{Op: op}
	if op == api.Const {
		i.V = num(5)
	}
	return i
}

// field is the k-th operand.
func field(i *api.Inst, k int) *int { return []*int{&i.A, &i.B, &i.C}[k] }

// with is the instruction with o as its k-th operand.
func with(i api.Inst, k, o int) api.Inst {
	*field(&i, k) = o
	return i
}

// steps is n instructions, all of them Step.
func steps(n int) []api.Inst { return slices.Repeat([]api.Inst{step}, n) }

// long is a program of n instructions that may be run.
func long(n int) []api.Inst { return append(steps(n-1), done) }

// put is a copy of the program with i as its k-th instruction.
func put(l []api.Inst, k int, i api.Inst) []api.Inst {
	l = slices.Clone(l)
	l[k] = i
	return l
}

// checked holds what Check answers against what it should.
func checked(t *testing.T, l []api.Inst, want api.Errno, number int) {
	t.Helper()
	if e, n := check.Check(l); e != want || n != number {
		t.Errorf("%d of %v: error %d, %d, not %d, %d", len(l), l[:min(len(l), 8)], e, n, want, number)
	}
	if want != api.OK && len(check.Reached(l)) != 0 {
		t.Errorf("%v: may not be run, and something is reached", l[:min(len(l), 8)])
	}
}

// reached holds what Reached answers against a text with an x for each instruction that can be come to.
func reached(t *testing.T, want string, l ...api.Inst) {
	t.Helper()
	checked(t, l, api.OK, 0)
	got := ""
	for _, yes := range check.Reached(l) {
		if yes {
			got += "x"
		} else {
			got += "."
		}
	}
	if got != want {
		t.Errorf("%v: reached %s, not %s", l, got, want)
	}
}

func TestExamples(t *testing.T) {
	one := api.Inst{Op: api.Const, V: num(1)}
	checked(t, []api.Inst{one, done}, api.OK, 0)
	checked(t, []api.Inst{one}, api.ErrState, 0)
}

func TestLengths(t *testing.T) {
	checked(t, nil, api.ErrArg, 0)
	checked(t, []api.Inst{}, api.ErrArg, 0)
	for n := 1; n <= 64; n++ {
		checked(t, long(n), api.OK, 0)
	}
	for _, n := range []int{65, 66, 127, 128, 129, 256, 257, 320, 1 << 16} {
		checked(t, long(n), api.ErrLong, 64)
		checked(t, steps(n), api.ErrLong, 64)
		checked(t, make([]api.Inst, n), api.ErrLong, 64)
	}
}

func TestEachOpMayStandInside(t *testing.T) {
	for op := 1; op < len(ops); op++ {
		for k := range 3 {
			checked(t, put(long(4), k, inst(op)), api.OK, 0)
		}
	}
}

func TestLastOne(t *testing.T) {
	for op := 1; op < len(ops); op++ {
		for _, n := range []int{1, 2, 3, 63, 64} {
			if slices.Contains(lasts, op) {
				checked(t, put(long(n), n-1, inst(op)), api.OK, 0)
			} else {
				checked(t, put(long(n), n-1, inst(op)), api.ErrState, n-1)
			}
		}
	}
	// What stands ahead of it makes up for nothing.
	checked(t, []api.Inst{done, jump(0), step}, api.ErrState, 2)
	checked(t, []api.Inst{jump(0), step}, api.ErrState, 1)
	checked(t, []api.Inst{done, unless(0)}, api.ErrState, 1)
}

// TestRegistersOfPrograms: of each Op, at each of its operands.
func TestRegistersOfPrograms(t *testing.T) {
	for op := 1; op < len(ops); op++ {
		for k, is := range ops[op].has {
			for o := range 256 {
				i := with(inst(op), k, o)
				for at := range 3 {
					l := put(long(4), at, i)
					switch {
					case is == 'r' && o >= 6:
						checked(t, l, api.ErrKind, at)
					case is == 'g' && o >= len(l):
						checked(t, l, api.ErrIndex, at)
					default:
						checked(t, l, api.OK, 0)
					}
				}
			}
		}
	}
}

// TestLastRegister: of those that may be the last one, and stand there.
func TestLastRegister(t *testing.T) {
	for _, op := range []int{api.Done, api.Fail} {
		for _, n := range []int{1, 2, 64} {
			checked(t, put(long(n), n-1, with(inst(op), 0, 5)), api.OK, 0)
			checked(t, put(long(n), n-1, with(inst(op), 0, 6)), api.ErrKind, n-1)
			checked(t, put(long(n), n-1, with(inst(op), 0, 255)), api.ErrKind, n-1)
		}
	}
}

// TestAllRegisters: one of several that is too great is found, wherever it stands.
func TestAllRegisters(t *testing.T) {
	for op := 1; op < len(ops); op++ {
		i := inst(op)
		for k, is := range ops[op].has {
			if is == 'r' {
				i = with(i, k, 5)
			}
		}
		checked(t, []api.Inst{i, done}, api.OK, 0)
		for k, is := range ops[op].has {
			if is == 'r' {
				checked(t, []api.Inst{with(i, k, 6), done}, api.ErrKind, 0)
			}
		}
	}
}

func TestChildsProgram(t *testing.T) {
	for _, a := range []int{0, 1, 5, 6, 7, 63, 64, 65, 254, 255} {
		checked(t, []api.Inst{{Op: api.Child, A: a, B: 5, C: 5}, done}, api.OK, 0)
		checked(t, []api.Inst{{Op: api.Child, A: a, B: 6, C: 5}, done}, api.ErrKind, 0)
		checked(t, []api.Inst{{Op: api.Child, A: a, B: 5, C: 6}, done}, api.ErrKind, 0)
	}
	checked(t, []api.Inst{{Op: api.Child, A: 256}, done}, api.ErrField, 0)
	checked(t, []api.Inst{{Op: api.Child, A: -1}, done}, api.ErrField, 0)
}

// TestTargetsOfPrograms: below, at and above how many instructions there are.
func TestTargetsOfPrograms(t *testing.T) {
	for _, n := range []int{2, 3, 6, 7, 8, 63, 64} {
		for _, to := range []int{0, 1, n - 2, n - 1, n, n + 1, 64, 65, 254, 255} {
			for _, at := range []int{0, n / 2, n - 2, n - 1} {
				want, number := api.OK, 0
				if to >= n {
					want, number = api.ErrIndex, at
				}
				checked(t, put(long(n), at, jump(to)), want, number)
				if at < n-1 {
					checked(t, put(long(n), at, unless(to)), want, number)
				}
			}
		}
	}
	checked(t, []api.Inst{jump(0)}, api.OK, 0)
	checked(t, []api.Inst{jump(1)}, api.ErrIndex, 0)
	checked(t, []api.Inst{jump(-1)}, api.ErrField, 0)
	checked(t, []api.Inst{jump(256)}, api.ErrField, 0)
	checked(t, []api.Inst{unless(math.MinInt), done}, api.ErrField, 0)
	checked(t, []api.Inst{{Op: api.Unless, A: 1, B: 5}, done}, api.OK, 0)
	checked(t, []api.Inst{{Op: api.Unless, A: 1, B: 6}, done}, api.ErrKind, 0)
}

// TestWhatMayNotBe: what layer 13 refuses, wherever it stands.
func TestWhatMayNotBe(t *testing.T) {
	var wrong []api.Inst
	for _, op := range noOps {
		wrong = append(wrong, api.Inst{Op: op})
	}
	for op := 1; op < len(ops); op++ {
		for k := range 3 {
			for _, o := range []int{math.MinInt, -1, 256, math.MaxInt} {
				wrong = append(wrong, with(inst(op), k, o))
			}
			if k >= len(ops[op].has) {
				wrong = append(wrong, with(inst(op), k, 1), with(inst(op), k, 6))
			}
		}
		if op != api.Const {
			wrong = append(wrong, api.Inst{Op: op, V: num(0)}, api.Inst{Op: op, V: api.Value{N: 1}}, api.Inst{Op: op, V: api.Value{S: "a"}})
		}
	}
	for _, v := range []api.Value{{}, {Kind: 3}, {Kind: -1}, {Kind: api.Int, S: "a"}, {Kind: api.Text, N: 1}, {Kind: api.Text, S: "01234567890"}, {Kind: api.Text, S: strings.Repeat("a", 1<<16)}} {
		wrong = append(wrong, api.Inst{Op: api.Const, V: v})
	}
	for _, i := range wrong {
		for _, n := range []int{1, 2, 64} {
			checked(t, put(long(n), 0, i), api.ErrField, 0)
			checked(t, put(long(n), n/2, i), api.ErrField, n/2)
			checked(t, put(long(n), n-1, i), api.ErrField, n-1)
		}
	}
	for _, v := range []api.Value{num(math.MinInt64), num(math.MaxInt64), {Kind: api.Text}, {Kind: api.Text, S: "0123456789"}} {
		checked(t, []api.Inst{{Op: api.Const, A: 5, V: v}, done}, api.OK, 0)
	}
}

// TestFirstError: of each two errors the one that the chapter names first, whichever instruction is at fault first.
func TestFirstError(t *testing.T) {
	faults := []struct {
		i    api.Inst
		want api.Errno
	}{
		{api.Inst{}, api.ErrField},
		{api.Inst{Op: api.Move, B: 6}, api.ErrKind},
		{jump(200), api.ErrIndex},
	}
	for a, x := range faults {
		for _, y := range faults[a+1:] {
			checked(t, []api.Inst{x.i, step, y.i, done}, x.want, 0)
			checked(t, []api.Inst{y.i, step, x.i, done}, x.want, 2)
			checked(t, []api.Inst{y.i, step, x.i}, x.want, 2)
			checked(t, []api.Inst{x.i, step, y.i}, x.want, 0)
		}
		// The last one is told behind all others.
		checked(t, []api.Inst{step, x.i, done, step}, x.want, 1)
		checked(t, append(long(64), x.i), api.ErrLong, 64)
		checked(t, append([]api.Inst{x.i}, long(64)...), api.ErrLong, 64)
	}
	// All at once, and then with the first one mended, again and again.
	l := []api.Inst{step, jump(200), {Op: api.Emit, A: 6}, {Op: 20}, step}
	checked(t, l, api.ErrField, 3)
	l[3] = step
	checked(t, l, api.ErrKind, 2)
	l[2] = step
	checked(t, l, api.ErrIndex, 1)
	l[1] = step
	checked(t, l, api.ErrState, 4)
	l[4] = done
	checked(t, l, api.OK, 0)
	// One instruction that breaks two rules.
	checked(t, []api.Inst{{Op: api.Unless, A: 200, B: 6}, done}, api.ErrKind, 0)
	checked(t, []api.Inst{{Op: api.Unless, A: 256, B: 6}, done}, api.ErrField, 0)
	checked(t, []api.Inst{done, {Op: api.Unless, A: 200, B: 6}}, api.ErrKind, 1)
	checked(t, []api.Inst{done, {Op: api.Unless, A: 200}}, api.ErrIndex, 1)
	checked(t, []api.Inst{done, {Op: api.Move, A: 6}}, api.ErrKind, 1)
}

// TestFirstAtFault: of several instructions with one error the first.
func TestFirstAtFault(t *testing.T) {
	for _, x := range []struct {
		i    api.Inst
		want api.Errno
	}{
		{api.Inst{}, api.ErrField},
		{api.Inst{Op: api.Done, A: 6}, api.ErrKind},
		{jump(64), api.ErrIndex},
	} {
		for first := range 64 {
			l := long(64)
			for k := first; k < 64; k++ {
				l[k] = x.i
				checked(t, l, x.want, first)
			}
		}
	}
}

func TestRegisters(t *testing.T) {
	for op := 1; op < len(ops); op++ {
		for _, a := range odd {
			for _, o := range [][3]int{{a, 1, 2}, {3, a, 4}, {5, 6, a}, {a, a, a}} {
				var want []int
				for k, is := range ops[op].has {
					if is == 'r' {
						want = append(want, o[k])
					}
				}
				// What is in operands that an Op hasn't, and in V, plays no part.
				i := api.Inst{Op: op, A: o[0], B: o[1], C: o[2], V: api.Value{Kind: 7, N: 1, S: "a"}}
				if got := check.Registers(i); !slices.Equal(got, want) {
					t.Errorf("%s %v: %v, not %v", ops[op].name, o, got, want)
				}
			}
		}
	}
	for _, op := range noOps {
		for _, a := range odd {
			if got := check.Registers(api.Inst{Op: op, A: a, B: a, C: a}); len(got) != 0 {
				t.Errorf("%d: %v", op, got)
			}
		}
	}
}

func TestTarget(t *testing.T) {
	for op := 1; op < len(ops); op++ {
		for _, a := range odd {
			want, there := 0, op == api.Jump || op == api.Unless
			if there {
				want = a
			}
			i := api.Inst{Op: op, A: a, B: 7, C: 8, V: api.Value{Kind: 7, N: 1, S: "a"}}
			if n, yes := check.Target(i); n != want || yes != there {
				t.Errorf("%s %d: %d, %v, not %d, %v", ops[op].name, a, n, yes, want, there)
			}
		}
	}
	for _, op := range noOps {
		for _, a := range odd {
			if n, yes := check.Target(api.Inst{Op: op, A: a, B: a, C: a}); n != 0 || yes {
				t.Errorf("%d: %d, %v", op, n, yes)
			}
		}
	}
}

func TestReached(t *testing.T) {
	fail := api.Inst{Op: api.Fail}
	reached(t, "x", done)
	reached(t, "x", fail)
	reached(t, "x", jump(0))
	reached(t, "xx", step, done)
	// Nobody comes to what stands behind a Jump, a Done or a Fail.
	reached(t, "x.", done, done)
	reached(t, "x.", fail, done)
	reached(t, "x.", jump(0), done)
	reached(t, "x...", done, step, step, done)
	reached(t, "xx..", step, jump(0), step, done)
	// Forwards, backwards, onto the next one and onto itself.
	reached(t, "xx", jump(1), done)
	reached(t, "x.x", jump(2), step, done)
	reached(t, "x..xx", jump(3), step, done, step, jump(0))
	reached(t, "xx.x", step, jump(3), done, jump(0))
	reached(t, "x.xx.", jump(3), step, done, jump(2), done)
	reached(t, "xx", step, jump(1))
	// What only leads to something, and can't be come to itself, counts nothing.
	reached(t, "x..", done, jump(2), done)
	reached(t, "x.x.", jump(2), unless(3), jump(2), done)
	reached(t, "x..x", jump(3), jump(2), jump(1), done)
	// Unless: both ways.
	reached(t, "xx", unless(0), done)
	reached(t, "xx", unless(1), done)
	reached(t, "xx.x", unless(3), done, step, done)
	reached(t, "xxxxxx", unless(2), unless(3), unless(4), unless(5), unless(0), done)
	reached(t, "xx.xx.x", unless(3), jump(6), step, unless(1), done, jump(2), jump(4))
	reached(t, "xxx..xx", unless(5), unless(6), done, step, done, done, done)
	reached(t, "xx.xx", unless(3), jump(4), step, done, done)
}

// TestBehindEachOp: which Ops go on at the next instruction.
func TestBehindEachOp(t *testing.T) {
	for op := 1; op < len(ops); op++ {
		want := "xx."
		if slices.Contains(lasts, op) {
			want = "x.."
		}
		reached(t, want, inst(op), done, done)
	}
}

// TestGoalsAlone: A of what is no Jump and no Unless is nothing to go on at.
func TestGoalsAlone(t *testing.T) {
	for op := 1; op < len(ops); op++ {
		if strings.HasPrefix(ops[op].has, "g") || ops[op].has == "" {
			continue
		}
		want := "xx.."
		if slices.Contains(lasts, op) {
			want = "x..."
		}
		reached(t, want, with(inst(op), 0, 3), done, step, done)
	}
	reached(t, "xx..", api.Inst{Op: api.Unless, A: 1, B: 3}, done, step, done)
}

// TestLongWays: through 64 instructions forwards, backwards and to and fro.
func TestLongWays(t *testing.T) {
	all := strings.Repeat("x", 64)
	reached(t, all, long(64)...)
	var back, chain, both []api.Inst
	back = append(back, jump(63))
	for k := 1; k < 64; k++ {
		back = append(back, jump(k-1))
	}
	reached(t, all, back...)
	for k := range 63 {
		chain = append(chain, unless(k+1))
	}
	reached(t, all, append(chain, done)...)
	for k := range 64 {
		both = append(both, jump(63-k))
	}
	reached(t, "x"+strings.Repeat(".", 62)+"x", both...)
	reached(t, "x"+strings.Repeat(".", 62)+"x", put(long(64), 0, jump(63))...)
}

// TestNoneReached: of programs that may not be run.
func TestNoneReached(t *testing.T) {
	for _, l := range [][]api.Inst{
		nil,
		{},
		long(65),
		{{}, done},
		{done, {}},
		{{Op: api.Emit, A: 6}, done},
		{jump(2), done},
		{unless(2), done},
		{jump(-1)},
		{done, jump(math.MaxInt)},
		{step},
		{jump(0), step},
		steps(1 << 16),
	} {
		if r := check.Reached(l); len(r) != 0 {
			t.Errorf("%v: %v", l[:min(len(l), 8)], r)
		}
	}
}

// TestMemory: what is handed in isn't changed, and what is answered is the caller's.
func TestMemory(t *testing.T) {
	l := []api.Inst{unless(2), {Op: api.Add, A: 1, B: 2, C: 3}, done}
	was := slices.Clone(l)
	r := check.Reached(l)
	clear(r)
	reached(t, "xxx", l...)
	g := check.Registers(l[1])
	clear(g)
	g = append(g[:0], 9, 9, 9, 9)
	if again := check.Registers(l[1]); !slices.Equal(again, []int{1, 2, 3}) || len(g) != 4 {
		t.Errorf("registers %v", again)
	}
	checked(t, l, api.OK, 0)
	if !slices.Equal(l, was) {
		t.Errorf("changed into %v", l)
	}
}
