package inbox_test

import (
	"fmt"
	"slices"
	"testing"

	"factotum/api"
	"factotum/inbox"
)

// draws is a row of numbers that look drawn, the same ones each time.
type draws uint64

func (d *draws) next() uint64 {
	*d = *d*6364136223846793005 + 1442695040888963407
	x := uint64(*d)
	return (x ^ x>>29) * 0xbf58476d1ce4e5b9 >> 16
}

func (d *draws) below(n int) int { return int(d.next() % uint64(n)) }

// model is all that was taken, in a plain list, and how many verdicts there were.
type model struct {
	all    []api.Message
	counts [5]int
}

// take looks for the number in the whole list, as the chapter tells of it.
func (m *model) take(x api.Message) inbox.Verdict {
	v := inbox.Early
	if x.Seq < 1 {
		v = inbox.None
	}
	top := 0
	for _, y := range m.all {
		top = max(top, y.Seq)
		if y.Seq == x.Seq {
			v = inbox.Other
			if y.Flow == x.Flow && y.Step == x.Step && y.V.Kind == x.V.Kind && y.V.N == x.V.N && y.V.S == x.V.S {
				v = inbox.Again
			}
		}
	}
	if x.Seq == top+1 {
		v = inbox.Taken
		m.all = append(m.all, x)
	}
	m.counts[v-1]++
	return v
}

// message is mostly one of the stream, about the next number; at times another one, or one with an odd number.
func (d *draws) message(m *model) api.Message {
	next := len(m.all) + 1
	seq := next
	switch d.below(8) {
	case 0:
		seq = odd[d.below(len(odd))]
	case 1, 2:
		seq = next - 2 + d.below(5)
	case 3, 4:
		seq = 1 + d.below(next+2)
	}
	x := message(seq)
	if d.below(6) == 0 {
		l := others(x)
		return l[d.below(len(l))]
	}
	return x
}

// lot is up to so many messages.
func (d *draws) lot(m *model, most int) []api.Message {
	l := make([]api.Message, d.below(most+1))
	for k := range l {
		l[k] = d.message(m)
	}
	return l
}

// step does a drawn call on both.
func (d *draws) step(t *testing.T, b *inbox.Box, m *model) {
	if d.below(3) == 0 {
		x := d.message(m)
		wantTake(t, b, x, m.take(x))
		return
	}
	var want []inbox.Verdict
	l := d.lot(m, 5)
	for _, x := range l {
		want = append(want, m.take(x))
	}
	wantTakes(t, b, l, want)
}

// TestDrawnCalls holds drawn rows of calls against the plain list.
func TestDrawnCalls(t *testing.T) {
	var met [5]int
	for row := range 600 {
		d := draws(row)
		b := inbox.New()
		var m model
		for call := range 40 {
			d.step(t, b, &m)
			what := fmt.Sprint("row ", row, ", call ", call)
			wantBox(t, what, b, m.all)
			wantCounts(t, what, b, m.counts)
		}
		for k, n := range m.counts {
			met[k] += n
		}
	}
	for k, n := range met {
		if n < 1000 {
			t.Errorf("verdict %d: met %d times", k+1, n)
		}
	}
}

// TestShortRows holds all rows of up to six out of these messages against the plain list, each row one by one and at once.
func TestShortRows(t *testing.T) {
	other := others(message(1))[0]
	those := []api.Message{message(1), message(2), message(3), other, others(message(2))[1], message(0)}
	const deep = 6
	rows := 1
	for range deep {
		rows *= len(those) + 1
	}
	for row := range rows {
		var l []api.Message
		for k := row; k > 0; k /= len(those) + 1 {
			if c := k % (len(those) + 1); c > 0 {
				l = append(l, those[c-1])
			}
		}
		var m model
		var want []inbox.Verdict
		b := inbox.New()
		for _, x := range l {
			v := m.take(x)
			want = append(want, v)
			wantTake(t, b, x, v)
		}
		whole := inbox.New()
		wantTakes(t, whole, l, want)
		if !slices.Equal(b.All(), m.all) || !slices.Equal(whole.All(), m.all) {
			t.Fatal(row, b.All(), whole.All(), m.all)
		}
	}
}

// wantStream: of lots of one stream all up to last are taken, each once, in order; what is told of each lot tells that, too.
func wantStream(t *testing.T, b *inbox.Box, lots [][]api.Message, last int) {
	t.Helper()
	top := b.Last()
	for _, l := range lots {
		for k, v := range b.Takes(l) {
			want := inbox.Again
			if l[k].Seq > top {
				want, top = inbox.Taken, top+1
			}
			if v != want {
				t.Errorf("%v: %d, not %d", l[k], v, want)
			}
		}
		wantBox(t, "behind a lot", b, stream(1, top))
	}
	wantBox(t, "behind all lots", b, stream(1, last))
	if b.Count(inbox.Taken) != last || b.Count(inbox.Early)+b.Count(inbox.Other)+b.Count(inbox.None) != 0 {
		t.Error("counts", b.Count(inbox.Taken), b.Count(inbox.Early), b.Count(inbox.Other), b.Count(inbox.None))
	}
}

// TestStream: lots that overlap, begin at 1 again, or come twice.
func TestStream(t *testing.T) {
	for _, x := range []struct {
		lots [][]api.Message
		last int
	}{
		{nil, 0},
		{[][]api.Message{nil, {}}, 0},
		{[][]api.Message{stream(1, 9)}, 9},
		{[][]api.Message{stream(1, 9), stream(1, 9)}, 9},
		{[][]api.Message{stream(1, 3), stream(2, 6), stream(4, 9), stream(10, 12)}, 12},
		{[][]api.Message{stream(1, 3), stream(1, 6), stream(1, 2), stream(1, 9)}, 9},
		{[][]api.Message{stream(1, 4), nil, stream(5, 5), stream(5, 5), stream(6, 6), stream(1, 1), stream(3, 4), stream(7, 7)}, 7},
	} {
		wantStream(t, inbox.New(), x.lots, x.last)
	}
}

// TestAllLots: of a stream of six, all rows of three lots that begin not behind what was taken.
func TestAllLots(t *testing.T) {
	const most = 6
	each := func(top int, do func(l []api.Message, top int)) {
		for first := 1; first <= top+1; first++ {
			for last := first - 1; last <= most; last++ {
				do(stream(first, last), max(top, last))
			}
		}
	}
	rows := 0
	each(0, func(x []api.Message, top int) {
		each(top, func(y []api.Message, top int) {
			each(top, func(z []api.Message, top int) {
				wantStream(t, inbox.New(), [][]api.Message{x, y, z}, top)
				rows++
			})
		})
	})
	if rows < 1000 {
		t.Error(rows)
	}
}

// TestDrawnLots: drawn lots of a longer stream, till all of it was taken.
func TestDrawnLots(t *testing.T) {
	const last = 200
	for row := range 100 {
		d := draws(row)
		var lots [][]api.Message
		for top := 0; top < last; {
			first := max(1, top+1-d.below(8))
			if d.below(20) == 0 {
				first = 1
			}
			l := stream(first, min(last, first-1+d.below(12)))
			for range 1 + d.below(2) {
				lots = append(lots, l)
			}
			top = max(top, first-1+len(l))
		}
		wantStream(t, inbox.New(), lots, last)
	}
}

// TestMany: a great number of messages, each of which comes twice.
func TestMany(t *testing.T) {
	const many = 200000
	b := inbox.New()
	for k := range many {
		m := message(k + 1)
		if v, w := b.Take(m), b.Take(m); v != inbox.Taken || w != inbox.Again {
			t.Fatal(k, v, w)
		}
	}
	wantBox(t, "many", b, stream(1, many))
	wantCounts(t, "many", b, [5]int{many, many, 0, 0, 0})
}
