package check_test

import (
	"math"
	"slices"
	"strings"
	"testing"

	"factotum/api"
	"factotum/check"
)

// draws is a row of numbers that look drawn, the same ones each time.
type draws uint64

func (d *draws) next() uint64 {
	*d = *d*6364136223846793005 + 1442695040888963407
	x := uint64(*d)
	return (x ^ x>>29) * 0xbf58476d1ce4e5b9 >> 16
}

func (d *draws) below(n int) int { return int(d.next() % uint64(n)) }

// inst is an instruction that may stand in a program of n instructions.
func (d *draws) inst(n int) api.Inst {
	i := inst(1 + d.below(19))
	if d.below(3) == 0 {
		i = inst([]int{api.Jump, api.Unless, api.Done, api.Fail}[d.below(4)])
	}
	for k, is := range ops[i.Op].has {
		*field(&i, k) = d.below(map[rune]int{'r': 6, 'g': n, 'p': 256}[is])
	}
	return i
}

// program is one that may be run.
func (d *draws) program() []api.Inst {
	n := 1 + d.below(8)
	if d.below(3) == 0 {
		n = 1 + d.below(64)
	}
	var l []api.Inst
	for range n - 1 {
		l = append(l, d.inst(n))
	}
	last := inst(lasts[d.below(3)])
	last.A = d.below(min(n, 6))
	return append(l, last)
}

// spoil changes something of a program, so that it may still be run or not.
func (d *draws) spoil(l []api.Inst) []api.Inst {
	l = slices.Clone(l)
	k := d.below(len(l))
	wrong := []int{-1, 0, 1, 3, 5, 6, 7, 19, 20, len(l) - 1, len(l), len(l) + 1, 255, 256, math.MinInt, math.MaxInt}
	o := wrong[d.below(len(wrong))]
	switch d.below(8) {
	case 0:
		l[k].Op = o
	case 1:
		l[k].V = []api.Value{{}, num(3), {Kind: api.Text, S: "a"}, {Kind: api.Text, S: "01234567890"}, {N: 1}}[d.below(5)]
	case 2:
		return l[:k]
	case 3:
		return slices.Insert(l, k, d.inst(len(l)+1))
	case 4:
		return append(l, d.inst(len(l)+1))
	default:
		*field(&l[k], d.below(3)) = o
	}
	return l
}

// plainMayBe is a second reading of layer 13: an instruction that may be.
func plainMayBe(i api.Inst) bool {
	if i.Op < 1 || i.Op > 19 {
		return false
	}
	for k := range 3 {
		o := *field(&i, k)
		if o < 0 || o > 255 || k >= len(ops[i.Op].has) && o != 0 {
			return false
		}
	}
	switch {
	case i.Op != api.Const:
		return i.V == api.Value{}
	case i.V.Kind == api.Int:
		return i.V.S == ""
	}
	return i.V.Kind == api.Text && i.V.N == 0 && len(i.V.S) <= 10
}

// plainFaults are the errors that an instruction is at fault for, all of them, as far as each can be told.
func plainFaults(l []api.Inst, k int) []api.Errno {
	i := l[k]
	if !plainMayBe(i) {
		return []api.Errno{api.ErrField}
	}
	var f []api.Errno
	for j, is := range ops[i.Op].has {
		if o := *field(&i, j); is == 'r' && o >= 6 {
			f = append(f, api.ErrKind)
		} else if is == 'g' && o >= len(l) {
			f = append(f, api.ErrIndex)
		}
	}
	if k == len(l)-1 && !slices.Contains(lasts, i.Op) {
		f = append(f, api.ErrState)
	}
	return f
}

// plainCheck is a second reading of Check: of all faults of all instructions the one that is told.
func plainCheck(l []api.Inst) (api.Errno, int) {
	if len(l) == 0 {
		return api.ErrArg, 0
	}
	if len(l) > 64 {
		return api.ErrLong, 64
	}
	order := []api.Errno{api.ErrField, api.ErrKind, api.ErrIndex, api.ErrState}
	best, at := len(order), 0
	for k := range l {
		for _, e := range plainFaults(l, k) {
			if n := slices.Index(order, e); n < best {
				best, at = n, k
			}
		}
	}
	if best == len(order) {
		return api.OK, 0
	}
	return order[best], at
}

// plainNext is where an instruction may go on, read from the tests' own table.
func plainNext(l []api.Inst, k int) []int {
	var to []int
	if !slices.Contains(lasts, l[k].Op) {
		to = append(to, k+1)
	}
	if strings.HasPrefix(ops[l[k].Op].has, "g") {
		to = append(to, l[k].A)
	}
	return to
}

// plainReached is a second reckoning of Reached: what leads to what is closed over all instructions between, and only then the first one is asked.
func plainReached(l []api.Inst) []bool {
	n := len(l)
	var to [64][64]bool
	for k := range n {
		to[k][k] = true
		for _, m := range plainNext(l, k) {
			if m < n {
				to[k][m] = true
			}
		}
	}
	for mid := range n {
		for a := range n {
			for b := range n {
				to[a][b] = to[a][b] || to[a][mid] && to[mid][b]
			}
		}
	}
	return slices.Clone(to[0][:n])
}

// hold holds Check and Reached against their second readings, and a program that may be run against P15.2.
func hold(t *testing.T, l []api.Inst) api.Errno {
	t.Helper()
	was := slices.Clone(l)
	want, number := plainCheck(l)
	if e, n := check.Check(l); e != want || n != number {
		t.Fatalf("%v: error %d, %d, not %d, %d", l, e, n, want, number)
	}
	r := check.Reached(l)
	if want != api.OK {
		if len(r) != 0 {
			t.Fatalf("%v: may not be run, and %v is reached", l, r)
		}
		return want
	}
	if p := plainReached(l); !slices.Equal(r, p) {
		t.Fatalf("%v: reached %v, not %v", l, r, p)
	}
	holdInside(t, l, r)
	if !slices.Equal(l, was) {
		t.Fatalf("%v: changed into %v", was, l)
	}
	return want
}

// holdInside is P15.2: where an instruction that can be come to goes on, by the table and by Target, there is one, and it can be come to.
func holdInside(t *testing.T, l []api.Inst, r []bool) {
	t.Helper()
	for k := range l {
		if !r[k] {
			continue
		}
		to := plainNext(l, k)
		if n, there := check.Target(l[k]); there {
			to = append(to, n)
		}
		for _, n := range to {
			if n < 0 || n >= len(l) || !r[n] {
				t.Fatalf("%v: %d goes on at %d", l, k, n)
			}
		}
	}
}

func TestDrawnPrograms(t *testing.T) {
	d := draws(1)
	left := 0
	for range 20000 {
		l := d.program()
		if e := hold(t, l); e != api.OK {
			t.Fatalf("%v: error %d", l, e)
		}
		if slices.Contains(check.Reached(l), false) {
			left++
		}
	}
	if left < 5000 || left > 19000 {
		t.Errorf("%d of them have something that nobody comes to", left)
	}
}

// TestSpoiltPrograms: programs that may be run, changed once and more.
func TestSpoiltPrograms(t *testing.T) {
	d := draws(2)
	counts := map[api.Errno]int{}
	for range 20000 {
		l := d.program()
		for len(l) > 0 && d.below(4) > 0 {
			l = d.spoil(l)
			counts[hold(t, l)]++
		}
	}
	for _, e := range []api.Errno{api.OK, api.ErrArg, api.ErrLong, api.ErrField, api.ErrKind, api.ErrIndex, api.ErrState} {
		if counts[e] < 50 {
			t.Errorf("error %d only %d times", e, counts[e])
		}
	}
}

// TestShortPrograms: all programs of up to four instructions out of some of each sort.
func TestShortPrograms(t *testing.T) {
	sorts := []api.Inst{
		step, done, {Op: api.Fail, A: 5}, {Op: api.Child, A: 9}, {Op: api.Emit, A: 6}, {Op: 20},
		jump(0), jump(1), jump(2), jump(3), jump(4),
		unless(0), unless(1), unless(2), unless(3), {Op: api.Unless, A: 4, B: 6},
	}
	level := [][]api.Inst{nil}
	for range 4 {
		var next [][]api.Inst
		for _, l := range level {
			for _, i := range sorts {
				m := append(slices.Clone(l), i)
				hold(t, m)
				next = append(next, m)
			}
		}
		level = next
	}
}
