package timers_test

import (
	"fmt"
	"math"
	"slices"
	"testing"

	"factotum/timers"
)

// pair is a time and a number.
type pair struct {
	till int64
	id   int
}

// odd is numbers at the edges, and about them.
var odd = []int{math.MinInt, math.MinInt + 1, -1 << 32, -2, -1, 0, 1, 2, 3, 255, 256, 1 << 32, math.MaxInt - 1, math.MaxInt}

// set is timers with these pairs, set in this order.
func set(l ...pair) *timers.Timers {
	x := timers.New()
	for _, p := range l {
		x.Set(p.id, p.till)
	}
	return x
}

// wantPairs: these, told in order, and no others.
func wantPairs(t *testing.T, what string, x *timers.Timers, l ...pair) {
	t.Helper()
	if n := x.Len(); n != len(l) {
		t.Errorf("%s: %d pairs, not %d", what, n, len(l))
	}
	wantNext(t, what, x, l)
	for _, id := range odd {
		if !slices.ContainsFunc(l, func(p pair) bool { return p.id == id }) {
			wantTill(t, what, x, id, 0, false)
		}
	}
	for _, p := range l {
		wantTill(t, what, x, p.id, p.till, true)
	}
}

// wantNext: the first one of these.
func wantNext(t *testing.T, what string, x *timers.Timers, l []pair) {
	t.Helper()
	var first pair
	if len(l) > 0 {
		first = l[0]
	}
	if till, id, ok := x.Next(); till != first.till || id != first.id || ok != (len(l) > 0) {
		t.Errorf("%s: Next is %d, %d and %v, not %d, %d and %v", what, till, id, ok, first.till, first.id, len(l) > 0)
	}
}

func wantTill(t *testing.T, what string, x *timers.Timers, id int, till int64, ok bool) {
	t.Helper()
	if n, there := x.Till(id); n != till || there != ok {
		t.Errorf("%s: Till of %d is %d and %v, not %d and %v", what, id, n, there, till, ok)
	}
}

func wantDue(t *testing.T, what string, x *timers.Timers, now int64, l ...int) {
	t.Helper()
	if due := x.Due(now); !slices.Equal(due, l) {
		t.Errorf("%s: due at %d are %d, not %d", what, now, due, l)
	}
}

func wantDrop(t *testing.T, what string, x *timers.Timers, id int, ok bool) {
	t.Helper()
	if was := x.Drop(id); was != ok {
		t.Errorf("%s: Drop of %d is %v", what, id, was)
	}
}

func TestExample(t *testing.T) {
	x := timers.New()
	x.Set(1, 5)
	x.Set(2, 3)
	wantDue(t, "the chapter's example", x, 4, 2)
	wantDue(t, "the chapter's example", x, 9, 1)
}

func TestNew(t *testing.T) {
	x := timers.New()
	if x == nil {
		t.Fatal("New is nil")
	}
	wantPairs(t, "New", x)
	for _, n := range odd {
		wantDrop(t, "New", x, n, false)
		wantDue(t, "New", x, int64(n))
	}
	wantPairs(t, "New, behind Drop and Due", x)
	timers.New().Set(1, 1)
	wantPairs(t, "New, beside another one", x)
}

// TestSet: Next, Till and Len ahead of and behind each one.
func TestSet(t *testing.T) {
	x := timers.New()
	x.Set(3, 10)
	wantPairs(t, "one", x, pair{10, 3})
	x.Set(1, 20)
	wantPairs(t, "a later one", x, pair{10, 3}, pair{20, 1})
	x.Set(2, 5)
	wantPairs(t, "an earlier one", x, pair{5, 2}, pair{10, 3}, pair{20, 1})
	x.Set(0, 10)
	wantPairs(t, "one at another one's time", x, pair{5, 2}, pair{10, 0}, pair{10, 3}, pair{20, 1})
	x.Set(1, 4)
	wantPairs(t, "again, earlier", x, pair{4, 1}, pair{5, 2}, pair{10, 0}, pair{10, 3})
	x.Set(1, 7)
	wantPairs(t, "again, later", x, pair{5, 2}, pair{7, 1}, pair{10, 0}, pair{10, 3})
	x.Set(2, 5)
	wantPairs(t, "again, the first one at the same time", x, pair{5, 2}, pair{7, 1}, pair{10, 0}, pair{10, 3})
	x.Set(3, 10)
	wantPairs(t, "again, the last one at the same time", x, pair{5, 2}, pair{7, 1}, pair{10, 0}, pair{10, 3})
	x.Set(2, 10)
	wantPairs(t, "again, at the others' time", x, pair{7, 1}, pair{10, 0}, pair{10, 2}, pair{10, 3})
	x.Set(-1, -1)
	wantPairs(t, "a negative one", x, pair{-1, -1}, pair{7, 1}, pair{10, 0}, pair{10, 2}, pair{10, 3})
	wantDue(t, "all", x, 10, -1, 1, 0, 2, 3)
	wantPairs(t, "none", x)
}

// TestOdd: numbers and times may be any, and each has its place.
func TestOdd(t *testing.T) {
	for _, id := range odd {
		for _, till := range odd {
			what := fmt.Sprint(id, " for ", till)
			x := set(pair{int64(till), id})
			wantPairs(t, what, x, pair{int64(till), id})
			if till > math.MinInt {
				wantDue(t, what, x, int64(till)-1)
			}
			wantDue(t, what, x, int64(till), id)
			wantPairs(t, what+", behind Due", x)
			x.Set(id, int64(till))
			wantDrop(t, what, x, id, true)
			wantDrop(t, what+", twice", x, id, false)
			wantPairs(t, what+", behind Drop", x)
		}
	}
	x, y := timers.New(), timers.New()
	for k, n := range odd {
		x.Set(n, int64(odd[len(odd)-1-k]))
		y.Set(odd[len(odd)-1-k], 7)
	}
	reversed := slices.Clone(odd)
	slices.Reverse(reversed)
	wantDue(t, "the least of times", x, math.MinInt64, math.MaxInt)
	wantDue(t, "the greatest number again", x, math.MinInt64)
	wantDue(t, "the greatest of times", x, math.MaxInt64, reversed[1:]...)
	wantDue(t, "all at one time", y, 7, odd...)
}

func TestDrop(t *testing.T) {
	x := set(pair{5, 1}, pair{3, 2}, pair{8, 3}, pair{3, 0})
	wantDrop(t, "one that isn't set", x, 4, false)
	wantDrop(t, "a time", x, 5, false)
	wantPairs(t, "behind Drop of none", x, pair{3, 0}, pair{3, 2}, pair{5, 1}, pair{8, 3})
	wantDrop(t, "the first one", x, 0, true)
	wantPairs(t, "behind Drop of the first one", x, pair{3, 2}, pair{5, 1}, pair{8, 3})
	wantDrop(t, "twice", x, 0, false)
	wantPairs(t, "twice", x, pair{3, 2}, pair{5, 1}, pair{8, 3})
	wantDrop(t, "one between", x, 1, true)
	wantPairs(t, "behind Drop of one between", x, pair{3, 2}, pair{8, 3})
	wantDrop(t, "the last one", x, 3, true)
	wantPairs(t, "behind Drop of the last one", x, pair{3, 2})
	x.Set(3, 1)
	wantPairs(t, "set again", x, pair{1, 3}, pair{3, 2})
	wantDrop(t, "set again", x, 3, true)
	wantDrop(t, "what is left", x, 2, true)
	wantPairs(t, "all dropped", x)
	wantDue(t, "all dropped", x, math.MaxInt64)
}

// TestDropEach: whichever of them is dropped, the others stay as they are; in whatever order they were set.
func TestDropEach(t *testing.T) {
	l := []pair{{1, 5}, {1, 6}, {2, 0}, {3, 3}, {3, 4}, {5, -7}, {8, 2}, {9, 1}}
	for turn := range l {
		for gone := range l {
			what := fmt.Sprint("set from ", turn, " on, without ", gone)
			x := set(slices.Concat(l[turn:], l[:turn])...)
			wantDrop(t, what, x, l[gone].id, true)
			left := slices.Delete(slices.Clone(l), gone, gone+1)
			wantPairs(t, what, x, left...)
			var ids []int
			for _, p := range left {
				ids = append(ids, p.id)
			}
			wantDue(t, what, x, 9, ids...)
		}
	}
}

// TestDue: none, one, several and all; just below, at and just above a time.
func TestDue(t *testing.T) {
	x := set(pair{30, 1}, pair{10, 2}, pair{20, 9}, pair{20, 3}, pair{40, 0}, pair{20, 6})
	wantDue(t, "none", x, math.MinInt64)
	wantDue(t, "none", x, 0)
	wantDue(t, "just below", x, 9)
	wantPairs(t, "none", x, pair{10, 2}, pair{20, 3}, pair{20, 6}, pair{20, 9}, pair{30, 1}, pair{40, 0})
	wantDue(t, "one, at its time", x, 10, 2)
	wantDue(t, "one, twice", x, 10)
	wantPairs(t, "one", x, pair{20, 3}, pair{20, 6}, pair{20, 9}, pair{30, 1}, pair{40, 0})
	wantDue(t, "just below several", x, 19)
	wantDue(t, "several, just above their time", x, 21, 3, 6, 9)
	wantDue(t, "several, twice", x, 21)
	wantDue(t, "an earlier now", x, 10)
	wantPairs(t, "several", x, pair{30, 1}, pair{40, 0})
	wantDue(t, "just below the next", x, 29)
	wantDue(t, "all", x, 41, 1, 0)
	wantDue(t, "all, twice", x, 41)
	wantPairs(t, "all", x)
	wantDue(t, "none are left", x, math.MaxInt64)
}

// TestDueOrder: by the time, then by the number, in whatever order they were set.
func TestDueOrder(t *testing.T) {
	l := []pair{{-5, 4}, {0, 3}, {2, -1}, {2, 0}, {2, 7}, {6, 2}}
	for n := range 720 {
		rest := slices.Clone(l)
		x := timers.New()
		for k := len(l); k > 0; k-- {
			at := n % k
			n /= k
			x.Set(rest[at].id, rest[at].till)
			rest = slices.Delete(rest, at, at+1)
		}
		wantPairs(t, "in some order", x, l...)
		wantDue(t, "the first ones", x, 1, 4, 3)
		wantPairs(t, "behind the first ones", x, l[2:]...)
		wantDue(t, "the others", x, 6, -1, 0, 7, 2)
		wantPairs(t, "behind all", x)
	}
}

// TestAgain: a number that is set again is due once more; one that is set otherwise isn't due at what it was set for.
func TestAgain(t *testing.T) {
	x := set(pair{5, 1}, pair{6, 2})
	wantDue(t, "once", x, 5, 1)
	wantTill(t, "behind Due", x, 1, 0, false)
	wantDrop(t, "behind Due", x, 1, false)
	x.Set(1, 5)
	wantPairs(t, "set again", x, pair{5, 1}, pair{6, 2})
	wantDue(t, "once more", x, 5, 1)
	wantDue(t, "no third time", x, 5)
	x.Set(2, 9)
	wantDue(t, "at the earlier time", x, 8)
	wantDue(t, "at the later time", x, 9, 2)
	x.Set(2, 9)
	x.Set(2, 3)
	wantDue(t, "set to an earlier time", x, 3, 2)
	wantDue(t, "at what it was set for ahead of that", x, 9)
	x.Set(3, 4)
	wantDrop(t, "ahead of Due", x, 3, true)
	wantDue(t, "dropped", x, 4)
	x.Set(3, 7)
	wantDue(t, "dropped, and set again", x, 6)
	wantDue(t, "dropped, and set again", x, 7, 3)
	wantPairs(t, "all", x)
}

// TestOthers: what one does is its own.
func TestOthers(t *testing.T) {
	x, y := set(pair{1, 1}, pair{2, 2}), set(pair{2, 1})
	wantDue(t, "one", x, 1, 1)
	y.Set(2, 7)
	wantPairs(t, "one", x, pair{2, 2})
	wantPairs(t, "the other", y, pair{2, 1}, pair{7, 2})
}

// TestMemory: what was answered stays, and may be written to.
func TestMemory(t *testing.T) {
	x := set(pair{1, 1}, pair{1, 2}, pair{3, 3}, pair{4, 4})
	l := x.Due(1)
	m := x.Due(3)
	l = append(l, 9)
	x.Set(5, 0)
	n := x.Due(0)
	l[0] = 7
	if !slices.Equal(l, []int{7, 2, 9}) || !slices.Equal(m, []int{3}) || !slices.Equal(n, []int{5}) {
		t.Error(l, m, n)
	}
	wantPairs(t, "behind writing to what was answered", x, pair{4, 4})
}

// TestNil: nothing, false, none, 0.
func TestNil(t *testing.T) {
	var x *timers.Timers
	for _, n := range odd {
		x.Set(n, int64(n))
		wantDrop(t, "nil", x, n, false)
		wantDue(t, "nil", x, int64(n))
		wantPairs(t, "nil", x)
	}
}

// TestZero: timers that New didn't make are without pairs too.
func TestZero(t *testing.T) {
	var x timers.Timers
	wantPairs(t, "zero", &x)
	wantDrop(t, "zero", &x, 1, false)
	wantDue(t, "zero", &x, math.MaxInt64)
	x.Set(1, 5)
	x.Set(2, 3)
	wantPairs(t, "zero, set", &x, pair{3, 2}, pair{5, 1})
	wantDue(t, "zero, set", &x, 5, 2, 1)
}
