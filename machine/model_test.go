package machine_test

import (
	"math"
	"math/big"
	"slices"
	"testing"

	"factotum/api"
	"factotum/check"
	"factotum/machine"
)

// draws is a row of numbers that look drawn, the same ones each time.
type draws uint64

func (d *draws) next() uint64 {
	*d = *d*6364136223846793005 + 1442695040888963407
	x := uint64(*d)
	return (x ^ x>>29) * 0xbf58476d1ce4e5b9 >> 16
}

func (d *draws) below(n int) int { return int(d.next() % uint64(n)) }

// number is a number, mostly one of few, so that keys and values are met again.
func (d *draws) number() api.Value {
	switch d.below(4) {
	case 0:
		return num([]int64{math.MinInt64, math.MaxInt64, -1, 999999, 1000000, 1000001, 1 << 62}[d.below(7)])
	case 1:
		return num(int64(d.next()<<20 ^ d.next()))
	}
	return num(int64(d.below(6)))
}

// text is a text, mostly a short one.
func (d *draws) text() api.Value {
	s := "\x00a0\xff1b2c3d"
	if d.below(4) == 0 {
		return str(s[:d.below(11)])
	}
	k := d.below(10)
	return str(s[k : k+d.below(2)])
}

func (d *draws) value() api.Value {
	if d.below(2) == 0 {
		return d.number()
	}
	return d.text()
}

// register is one of those that mostly hold numbers, or one of the others.
func (d *draws) register(texts bool) int {
	if d.below(20) == 0 {
		return d.below(6)
	}
	if texts {
		return 3 + d.below(3)
	}
	return d.below(3)
}

// ops is how often an Op is drawn, and whether its registers mostly hold texts.
var ops = []struct {
	op    int
	texts bool
}{
	{api.Const, false}, {api.Const, true}, {api.Move, false}, {api.Move, true},
	{api.Add, false}, {api.Sub, false}, {api.Mul, false}, {api.Cat, true},
	{api.Less, false}, {api.Same, false}, {api.Unless, false}, {api.Jump, false},
	{api.Load, false}, {api.Store, false}, {api.Store, true}, {api.Store, false}, {api.Drop, true}, {api.Drop, false},
	{api.Emit, true}, {api.Emit, false}, {api.Sleep, false}, {api.Child, true}, {api.Step, false}, {api.Done, true}, {api.Fail, false},
}

// inst is the k-th instruction of n, which mostly goes forwards.
func (d *draws) inst(k, n int) api.Inst {
	x := ops[d.below(len(ops))]
	i := api.Inst{Op: x.op}
	regs := [...]*int{&i.A, &i.B, &i.C}
	for j := range check.Registers(api.Inst{Op: x.op}) {
		*regs[j] = d.register(x.texts)
	}
	switch x.op {
	case api.Const:
		i.V = d.number()
		if x.texts {
			i.V = d.text()
		}
	case api.Less, api.Same:
		i.B, i.C = d.below(6), d.below(6)
	case api.Store, api.Load:
		i.B = d.below(6)
	case api.Jump, api.Unless:
		i.A = min(n-1, k+1+d.below(3))
		if d.below(4) == 0 {
			i.A = d.below(n)
		}
		if x.op == api.Unless {
			i.B = d.below(6)
		}
	case api.Child:
		i = api.Inst{Op: x.op, A: d.below(256), B: d.below(6), C: d.below(6)}
	}
	return i
}

// program is one that may be run.
func (d *draws) program() []api.Inst {
	n := 1 + d.below(20)
	if d.below(3) == 0 {
		n = 1 + d.below(64)
	}
	var l []api.Inst
	for k := range n - 1 {
		l = append(l, d.inst(k, n))
	}
	last := []api.Inst{{Op: api.Done, A: d.below(6)}, {Op: api.Fail, A: d.below(6)}, {Op: api.Jump, A: d.below(n)}}
	return append(l, last[d.below(3)])
}

// frame is one that may be, of a program of n instructions.
func (d *draws) frame(n int) api.Frame {
	f := regs(0, d.number(), d.number(), d.number(), d.text(), d.text(), d.text())
	if d.below(3) == 0 {
		f.Pc = d.below(n)
	}
	if d.below(6) == 0 {
		f.Regs[d.below(6)] = d.value()
	}
	return f
}

// table is entries, some of them of the same keys, gone, or of values that may not be a register's.
func (d *draws) table() machine.Table {
	var t machine.Table
	for range d.below(12) {
		w := api.Write{Key: d.value(), Value: d.value(), Gone: d.below(4) == 0}
		if d.below(30) == 0 {
			w.Value = wrong[d.below(len(wrong))]
		}
		t = append(t, w)
	}
	return t
}

// fits is a second reading of what a register may have.
func fits(v api.Value) bool {
	return v.Kind == 1 && v.S == "" || v.Kind == 2 && v.N == 0 && len(v.S) <= 10
}

// moment is an instruction that was done, and the registers ahead of it.
type moment struct {
	i    api.Inst
	regs *[6]api.Value
}

// a, b and c are what is in the registers that the instruction names.
func (m moment) a() api.Value { return m.regs[m.i.A] }
func (m moment) b() api.Value { return m.regs[m.i.B] }
func (m moment) c() api.Value { return m.regs[m.i.C] }

// past is all that was done in a step: what its effects are is read out of it.
type past []moment

// of is what was done by some Ops.
func (p past) of(ops ...int) past {
	var l past
	for _, m := range p {
		if slices.Contains(ops, m.i.Op) {
			l = append(l, m)
		}
	}
	return l
}

// puts goes through the keys, and for each one through all that was done.
func (p past) puts() []api.Write {
	var keys []api.Value
	p = p.of(api.Store, api.Drop)
	for _, m := range p {
		if !slices.Contains(keys, m.a()) {
			keys = append(keys, m.a())
		}
	}
	var l []api.Write
	for _, k := range keys {
		w := api.Write{Key: k}
		for _, m := range p {
			if m.a() == k && m.i.Op == api.Store {
				w.Value, w.Gone = m.b(), false
			} else if m.a() == k {
				w.Value, w.Gone = api.Value{}, true
			}
		}
		l = append(l, w)
	}
	return l
}

// effects is what was done, told in the way in which the step ends.
func (p past) effects(end int) api.Effects {
	x := api.Effects{Puts: p.puts(), End: end}
	for _, m := range p.of(api.Emit) {
		x.Outs = append(x.Outs, m.a())
	}
	for _, m := range p.of(api.Child) {
		x.Kids = append(x.Kids, api.Spawn{Program: m.i.A, Arg: m.b(), Key: m.c()})
	}
	for _, m := range p.of(api.Sleep) {
		x.Sleep = m.a().N
	}
	return x
}

// asked says whether what was asked for last may be.
func (p past) asked() bool {
	m := p[len(p)-1]
	switch m.i.Op {
	case api.Sleep:
		return m.a().Kind == 1 && m.a().N >= 0 && m.a().N <= 1000000
	case api.Emit:
		return len(p.of(api.Emit)) <= 4
	case api.Child:
		return len(p.of(api.Child)) <= 2
	case api.Store, api.Drop:
		return len(p.puts()) <= 8
	}
	return true
}

// holds is what entries say of all keys, by kind, number and text.
func holds(t machine.Table) map[[2]int64]map[string]api.Value {
	m := map[[2]int64]map[string]api.Value{}
	for _, w := range t {
		k := [2]int64{int64(w.Key.Kind), w.Key.N}
		if m[k] == nil {
			m[k] = map[string]api.Value{}
		}
		m[k][w.Key.S] = w.Value
		if w.Gone {
			delete(m[k], w.Key.S)
		}
	}
	return m
}

// loaded is what a Load comes to, when all this was done.
func (p past) loaded(k api.Value, t machine.Table) api.Value {
	// What this step did lies behind what the table has, if all of it is laid into one.
	if v, there := holds(slices.Concat(t, p.puts()))[[2]int64{int64(k.Kind), k.N}][k.S]; there {
		return v
	}
	return num(0)
}

// reckoned is what an Op makes of two numbers, by numbers that don't wrap.
func reckoned(op int, b, c int64) api.Value {
	x, y, z := big.NewInt(b), big.NewInt(c), new(big.Int)
	switch op {
	case api.Add:
		z.Add(x, y)
	case api.Sub:
		z.Sub(x, y)
	case api.Mul:
		z.Mul(x, y)
	}
	z.And(z, new(big.Int).SetUint64(math.MaxUint64))
	return num(int64(z.Uint64()))
}

// ahead is a second reading of layer 2.
func ahead(b, c api.Value) bool {
	if b.Kind != c.Kind {
		return b.Kind == 1
	}
	if b.Kind == 1 {
		return b.N < c.N
	}
	return slices.Compare([]byte(b.S), []byte(c.S)) < 0
}

// sets is what register A becomes by an instruction, and whether it may be; of one that sets none it stays.
func (p past) sets(m moment, t machine.Table) (api.Value, bool) {
	both := func(k api.Kind) bool { return m.b().Kind == k && m.c().Kind == k }
	yes := map[bool]api.Value{true: num(1), false: num(0)}
	switch m.i.Op {
	case api.Const:
		return m.i.V, true
	case api.Move:
		return m.b(), true
	case api.Add, api.Sub, api.Mul:
		return reckoned(m.i.Op, m.b().N, m.c().N), both(1)
	case api.Cat:
		return str(m.b().S + m.c().S), both(2) && len(m.b().S+m.c().S) < 11
	case api.Less:
		return yes[ahead(m.b(), m.c())], true
	case api.Same:
		return yes[!ahead(m.b(), m.c()) && !ahead(m.c(), m.b())], true
	case api.Load:
		v := p.loaded(m.b(), t)
		return v, fits(v)
	}
	return api.Value{}, true
}

// setters are the Ops that set register A.
var setters = []int{api.Const, api.Move, api.Add, api.Sub, api.Mul, api.Cat, api.Less, api.Same, api.Load}

// plain is a second reckoning of a step: it keeps all that was done, and reads the effects out of it at the end.
func plain(l []api.Inst, f api.Frame, t machine.Table) api.Effects {
	now := [6]api.Value(f.Regs)
	pc := f.Pc
	var p past
	for len(p) < 200 {
		then := now
		m := moment{l[pc], &then}
		to, led := check.Target(m.i)
		v, ok := p.sets(m, t)
		p = append(p, m)
		if !ok || !p.asked() {
			return spent
		}
		if slices.Contains(setters, m.i.Op) {
			now[m.i.A] = v
		}
		switch m.i.Op {
		case api.Step:
			x := p.effects(0)
			x.Frame = api.Frame{Pc: pc + 1, Regs: now[:]}
			return x
		case api.Done, api.Fail:
			x := p.effects(m.i.Op - api.Done + 1)
			x.Value = m.a()
			return x
		}
		pc++
		if led && (m.i.Op == api.Jump || m.b() == num(0)) {
			pc = to
		}
	}
	return spent
}

// hold holds Run against the second reckoning and against P16.2.
func hold(t *testing.T, l []api.Inst, f api.Frame, tb machine.Table) api.Effects {
	t.Helper()
	wasL, wasR, wasT := slices.Clone(l), slices.Clone(f.Regs), slices.Clone(tb)
	x, e := machine.Run(l, f, tb)
	if want := plain(l, f, tb); e != api.OK || !alike(x, want) {
		t.Fatalf("%v of %v with %v: %+v, error %d, not %+v", l, f, tb, x, e, want)
	}
	within(t, l, x)
	if y, e := machine.Run(l, f, tb); e != api.OK || !alike(x, y) {
		t.Fatalf("%v of %v with %v: %+v, then %+v", l, f, tb, x, y)
	}
	if !slices.Equal(l, wasL) || !slices.Equal(f.Regs, wasR) || !slices.Equal(tb, wasT) {
		t.Fatalf("%v of %v with %v: something of it was changed", wasL, wasR, wasT)
	}
	return x
}

// within is P16.2 of effects: within what is told of them, and with a frame that may be, or none.
func within(t *testing.T, l []api.Inst, x api.Effects) {
	t.Helper()
	ok := len(x.Puts) <= 8 && len(x.Outs) <= 4 && len(x.Kids) <= 2 && x.Sleep >= 0 && x.Sleep <= 1000000
	for k, w := range x.Puts {
		ok = ok && fits(w.Key) && (w.Gone && w.Value == api.Value{} || !w.Gone && fits(w.Value))
		for _, v := range x.Puts[:k] {
			ok = ok && v.Key != w.Key
		}
	}
	for _, v := range x.Outs {
		ok = ok && fits(v)
	}
	for _, k := range x.Kids {
		ok = ok && k.Program >= 0 && k.Program < 256 && fits(k.Arg) && fits(k.Key)
	}
	noFrame, noValue := x.Frame.Pc == 0 && x.Frame.Regs == nil, x.Value == api.Value{}
	switch x.End {
	case api.Goes:
		ok = ok && noValue && machine.Right(l, x.Frame) && l[x.Frame.Pc-1].Op == api.Step
	case api.Well, api.Badly:
		ok = ok && noFrame && fits(x.Value)
	case api.Spent:
		ok = ok && alike(x, spent) && noFrame
	default:
		ok = false
	}
	if !ok {
		t.Fatalf("%v: %+v", l, x)
	}
}

// hasAll checks that drawn steps came to all that is of interest.
func hasAll(t *testing.T, counts map[string]int, least int, want ...string) {
	t.Helper()
	for _, w := range want {
		if counts[w] < least {
			t.Errorf("%s only %d times", w, counts[w])
		}
	}
}

// tell counts what is of interest in effects.
func tell(counts map[string]int, x api.Effects) {
	counts[[]string{"goes", "well", "badly", "spent"}[x.End]]++
	if len(x.Puts) > 1 {
		counts["puts"]++
	}
	for _, w := range x.Puts {
		if w.Gone {
			counts["gone"]++
		}
	}
	if len(x.Outs) > 1 {
		counts["outs"]++
	}
	if len(x.Kids) > 0 {
		counts["kids"]++
	}
	if x.Sleep > 0 {
		counts["sleeps"]++
	}
}

// TestDrawnSteps: of drawn programs, frames and tables, and of the frames that steps leave, with the tables that they leave.
func TestDrawnSteps(t *testing.T) {
	d := draws(1)
	counts := map[string]int{}
	for range 30000 {
		l := d.program()
		f, tb := d.frame(len(l)), d.table()
		for range 6 {
			x := hold(t, l, f, tb)
			tell(counts, x)
			if x.End != api.Goes {
				break
			}
			f, tb = x.Frame, tb.Has(x.Puts)
			counts["on"]++
		}
	}
	hasAll(t, counts, 1000, "goes", "well", "badly", "spent", "puts", "gone", "outs", "kids", "sleeps", "on")
}

// TestManyPuts: programs that store, drop and load few and many keys, so that eight and nine of them are met.
func TestManyPuts(t *testing.T) {
	d := draws(2)
	counts := map[string]int{}
	for range 20000 {
		var l []api.Inst
		keys := 2 + d.below(12)
		for range d.below(20) {
			l = append(l, api.Inst{Op: api.Const, V: num(int64(d.below(keys)))})
			switch d.below(4) {
			case 0:
				l = append(l, api.Inst{Op: api.Drop})
			case 1:
				l = append(l, api.Inst{Op: api.Load, A: d.below(6)})
			default:
				l = append(l, api.Inst{Op: api.Store, B: d.below(6)})
			}
		}
		l = append(l, []api.Inst{{Op: api.Done}, {Op: api.Fail}}[d.below(2)])
		x := hold(t, l, d.frame(1), d.table())
		tell(counts, x)
		if len(x.Puts) == 8 {
			counts["eight"]++
		}
	}
	hasAll(t, counts, 200, "well", "badly", "spent", "eight", "gone")
}

// TestShortPrograms: all programs of up to three instructions out of some of each sort, and an end; the shorter ones from each of their instructions.
func TestShortPrograms(t *testing.T) {
	sorts := prog(t, "const 0 'ff;const 1 0;move 1 0;move 0 5;add 0 0 1;sub 1 1 0;mul 0 1 1;cat 5 5 5;cat 0 0 5;less 0 1 5;same 0 0 1;jump 0;jump 2;unless 1 0;unless 0 1;load 1 0;load 0 5;store 0 1;store 1 5;drop 0;emit 0;sleep 1;child 3 0 5;step")
	ends := prog(t, "done 0;fail 1;jump 0")
	tb := table(num(0), str("x"), str("ab"), num(2)).Has([]api.Write{{Key: num(1), Gone: true}})
	frames := []api.Frame{regs(0, num(0), num(1), num(0), num(0), num(0), str("ab")), regs(0, str("ab"), num(0), num(0), num(0), num(0), num(1))}
	try := func(l []api.Inst) {
		for _, end := range ends {
			p := append(slices.Clone(l), end)
			if e, _ := check.Check(p); e != api.OK {
				continue
			}
			for _, f := range frames {
				for pc := range p {
					if pc > 0 && len(p) > 3 {
						break
					}
					hold(t, p, api.Frame{Pc: pc, Regs: f.Regs}, tb)
				}
			}
		}
	}
	level := [][]api.Inst{nil}
	for range 3 {
		var next [][]api.Inst
		for _, l := range level {
			for _, i := range sorts {
				m := append(slices.Clone(l), i)
				try(m)
				next = append(next, m)
			}
		}
		level = next
	}
}

// TestWhateverArguments: programs and frames that are spoilt, held against a second reading of what may be.
func TestWhateverArguments(t *testing.T) {
	d := draws(3)
	odd := []int{math.MinInt, -1, 0, 1, 5, 6, 19, 20, 63, 64, 255, 256, math.MaxInt}
	refusals, runs := 0, 0
	for range 60000 {
		l := d.program()
		f := d.frame(len(l))
		o := odd[d.below(len(odd))]
		i := &l[d.below(len(l))]
		switch d.below(9) {
		case 0:
			i.Op = o
		case 1:
			*[]*int{&i.A, &i.B, &i.C}[d.below(3)] = o
		case 2:
			i.V = wrong[d.below(len(wrong))]
		case 3:
			l = l[:d.below(len(l))]
		case 4:
			f.Pc = o
		case 5:
			f.Pc = len(l) - 1 + d.below(3)
		case 6:
			f.Regs[d.below(6)] = wrong[d.below(len(wrong))]
		case 7:
			f.Regs = append(f.Regs, num(0))[:d.below(8)]
		}
		e, _ := check.Check(l)
		want := e == api.OK && f.Pc >= 0 && f.Pc < len(l) && len(f.Regs) == 6 && !slices.ContainsFunc(f.Regs, func(v api.Value) bool { return !fits(v) })
		if machine.Right(l, f) != want {
			t.Fatalf("%v of %v: not %v", l, f, want)
		}
		if want {
			runs++
			hold(t, l, f, d.table())
			continue
		}
		refusals++
		if x, e := machine.Run(l, f, d.table()); e != api.ErrField || !alike(x, api.Effects{}) {
			t.Fatalf("%v of %v: %+v, error %d", l, f, x, e)
		}
	}
	if runs < 10000 || refusals < 10000 {
		t.Errorf("%d runs, %d refusals", runs, refusals)
	}
}

// TestDrawnTables: Look and Has, held against a map.
func TestDrawnTables(t *testing.T) {
	d := draws(4)
	for range 20000 {
		a, b := d.table(), d.table()
		both := a.Has(b)
		if !slices.Equal(both, append(slices.Clone(a), b...)) {
			t.Fatalf("%v and %v: %v", a, b, both)
		}
		m := holds(both)
		for range 20 {
			k := d.value()
			want, there := m[[2]int64{int64(k.Kind), k.N}][k.S]
			if v, yes := both.Look(k); v != want || yes != there {
				t.Fatalf("%v: of %v %v, %v, not %v, %v", both, k, v, yes, want, there)
			}
		}
	}
}
