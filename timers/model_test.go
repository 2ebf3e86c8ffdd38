package timers_test

import (
	"cmp"
	"fmt"
	"math"
	"slices"
	"testing"

	"factotum/timers"
)

// draws is a row of numbers that look drawn, the same ones each time.
type draws uint64

func (d *draws) next() uint64 {
	*d = *d*6364136223846793005 + 1442695040888963407
	x := uint64(*d)
	return (x ^ x>>29) * 0xbf58476d1ce4e5b9 >> 16
}

func (d *draws) below(n int) int { return int(d.next() % uint64(n)) }

// id is mostly one of a few, so that some are set again; at times an odd one.
func (d *draws) id(few int) int {
	if d.below(16) == 0 {
		return odd[d.below(len(odd))]
	}
	return d.below(few) - few/4
}

// time is mostly near to now.
func (d *draws) time(now int64) int64 {
	if d.below(16) == 0 {
		return int64(odd[d.below(len(odd))])
	}
	return now + int64(d.below(24)) - 6
}

// model is the pairs in a plain list, sorted anew each time.
type model []pair

func (m *model) sort() {
	slices.SortFunc(*m, func(a, b pair) int {
		return cmp.Or(cmp.Compare(a.till, b.till), cmp.Compare(a.id, b.id))
	})
}

// drop says whether there was a pair of this number.
func (m *model) drop(id int) bool {
	n := len(*m)
	*m = slices.DeleteFunc(*m, func(p pair) bool { return p.id == id })
	return len(*m) < n
}

// set says whether the number was set already.
func (m *model) set(id int, till int64) bool {
	was := m.drop(id)
	*m = append(*m, pair{till, id})
	m.sort()
	return was
}

func (m *model) due(now int64) []int {
	var l []int
	var left model
	for _, p := range *m {
		if p.till <= now {
			l = append(l, p.id)
		} else {
			left = append(left, p)
		}
	}
	*m = left
	return l
}

// TestDrawnCalls holds drawn rows of calls against the plain list.
func TestDrawnCalls(t *testing.T) {
	met := map[string]int{}
	for row := range 400 {
		d := draws(row)
		few := []int{3, 12, 60, 300}[row%4]
		x := timers.New()
		var m model
		now := int64(0)
		for call := range 300 {
			what := fmt.Sprint("row ", row, ", call ", call)
			switch k := d.below(10); {
			case k < 6:
				id, till := d.id(few), d.time(now)
				x.Set(id, till)
				met[fmt.Sprint("Set, again ", m.set(id, till))]++
			case k < 8:
				id := d.id(few)
				was := m.drop(id)
				wantDrop(t, what, x, id, was)
				met[fmt.Sprint("Drop ", was)]++
			default:
				now += int64(d.below(9)) - 1
				l := m.due(now)
				wantDue(t, what, x, now, l...)
				met[fmt.Sprint("Due of ", min(len(l), 3))]++
			}
			wantPairs(t, what, x, m...)
		}
		wantDue(t, "all", x, math.MaxInt64, m.due(math.MaxInt64)...)
		wantPairs(t, "all", x)
	}
	for _, k := range []string{"Set, again true", "Set, again false", "Drop true", "Drop false", "Due of 0", "Due of 1", "Due of 2", "Due of 3"} {
		if met[k] < 100 {
			t.Errorf("%s: met %d times", k, met[k])
		}
	}
}

// TestDueOnce: each number that was set, and neither set again nor dropped, is due once: at the first Due whose now isn't below its time.
func TestDueOnce(t *testing.T) {
	told := 0
	for row := range 300 {
		d := draws(1000 + row)
		x := timers.New()
		till := map[int]int64{}
		for id := range 1 + d.below(200) {
			till[id] = int64(d.below(60))
			x.Set(id, till[id])
		}
		for id := range d.below(20) {
			switch _, set := till[id]; {
			case !set:
			case d.below(2) == 0:
				x.Drop(id)
				delete(till, id)
			default:
				till[id] = int64(d.below(60))
				x.Set(id, till[id])
			}
		}
		last, now := int64(-1), int64(0)
		seen := map[int]bool{}
		for last < 60 {
			for _, id := range x.Due(now) {
				at, set := till[id]
				if !set || seen[id] || at <= last || at > now {
					t.Errorf("row %d: %d is due at %d, behind %d; it is set %v for %d, and was due %v", row, id, now, last, set, at, seen[id])
				}
				seen[id] = true
				told++
			}
			last = now
			now += int64(d.below(12))
		}
		if len(seen) != len(till) || x.Len() != 0 {
			t.Errorf("row %d: %d of %d were due, %d are left", row, len(seen), len(till), x.Len())
		}
	}
	if told < 10000 {
		t.Errorf("only %d were due", told)
	}
}

// TestMany: a great number of pairs comes out in order.
func TestMany(t *testing.T) {
	const many = 100000
	x := timers.New()
	d := draws(7)
	var m model
	for id := range many {
		p := pair{int64(d.below(many / 3)), id}
		m = append(m, p)
		x.Set(p.id, p.till)
	}
	m.sort()
	var want []int
	for _, p := range m {
		want = append(want, p.id)
	}
	if x.Len() != many || !slices.Equal(x.Due(many), want) || x.Len() != 0 {
		t.Error("not all, or not in order")
	}
}
