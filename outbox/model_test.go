package outbox_test

import (
	"fmt"
	"math"
	"testing"

	"factotum/api"
	"factotum/outbox"
)

// draws is a row of numbers that look drawn, the same ones each time.
type draws uint64

func (d *draws) next() uint64 {
	*d = *d*6364136223846793005 + 1442695040888963407
	x := uint64(*d)
	return (x ^ x>>29) * 0xbf58476d1ce4e5b9 >> 16
}

func (d *draws) below(n int) int { return int(d.next() % uint64(n)) }

// number is mostly one from 0 to most; at times an odd one.
func (d *draws) number(most int) int {
	if d.below(8) == 0 {
		return odd[d.below(len(odd))]
	}
	return d.below(most + 1)
}

func (d *draws) bytes(n int) string {
	b := make([]byte, n)
	for k := range b {
		b[k] = byte(d.next())
	}
	return string(b)
}

// value is mostly one that may be.
func (d *draws) value() api.Value {
	switch d.below(12) {
	case 0:
		return wrongValues[d.below(len(wrongValues))]
	case 1, 2, 3, 4, 5:
		return text(d.bytes(d.below(12)))
	}
	return num(int64(d.next()) - int64(d.next()))
}

// mayAdd says whether a message with these may be.
func mayAdd(flow, step int, v api.Value) bool {
	if flow < 0 || flow > 65535 || step < 0 || step > 255 {
		return false
	}
	switch v.Kind {
	case api.Int:
		return v.S == ""
	case api.Text:
		return v.N == 0 && len(v.S) <= 10
	}
	return false
}

// model is all that was ever added, in a plain list, and the mark.
type model struct {
	all  []api.Message
	mark int
}

func (m *model) ack(seq int) api.Errno {
	if seq > len(m.all) {
		return api.ErrIndex
	}
	m.mark = max(m.mark, seq)
	return api.OK
}

func (m *model) from(after, n int) []api.Message {
	var l []api.Message
	for _, x := range m.all {
		if x.Seq > after && x.Seq > m.mark && len(l) < n {
			l = append(l, x)
		}
	}
	return l
}

// seq is mostly a number about those that are there.
func (d *draws) seq(m *model) int {
	if d.below(16) == 0 {
		return odd[d.below(len(odd))]
	}
	return m.mark - 3 + d.below(len(m.all)-m.mark+7)
}

// step does a drawn call on both, and tells which one, and how it went.
func (d *draws) step(t *testing.T, what string, b *outbox.Box, m *model, adds int) string {
	switch k := d.below(12); {
	case k < adds:
		flow, step, v := d.number(65535), d.number(255), d.value()
		if !mayAdd(flow, step, v) {
			wantNoAdd(t, b, flow, step, v, api.ErrField)
			return "Add of what may not be"
		}
		x := message(len(m.all)+1, flow, step, v)
		m.all = append(m.all, x)
		wantAdd(t, b, x)
		return "Add"
	case k < adds+(12-adds)/2:
		was := m.mark
		seq := d.seq(m)
		e := m.ack(seq)
		wantAck(t, b, seq, e)
		return fmt.Sprint("Ack, error ", e, ", above the mark ", m.mark > was, ", of all ", m.mark > was && m.mark == len(m.all))
	}
	after, n := d.seq(m), d.number(8)
	l := m.from(after, n)
	wantFrom(t, what, b, after, n, l)
	return fmt.Sprint("From, of ", min(len(l), 3))
}

// TestDrawnCalls holds drawn rows of calls against the plain list.
func TestDrawnCalls(t *testing.T) {
	met := map[string]int{}
	for row := range 400 {
		d := draws(row)
		b := outbox.New()
		var m model
		// Of some rows many are there, of others mostly none.
		adds := []int{10, 8, 5, 2}[row%4]
		for call := range 300 {
			what := fmt.Sprint("row ", row, ", call ", call)
			met[d.step(t, what, b, &m, adds)]++
			if b.Mark() != m.mark || b.Last() != len(m.all) || b.Len() != len(m.all)-m.mark {
				t.Fatal(what, b.Mark(), b.Last(), b.Len())
			}
			after := d.seq(&m)
			wantFrom(t, what, b, after, math.MaxInt, m.from(after, math.MaxInt))
		}
		wantFrom(t, "all", b, 0, math.MaxInt, m.all[m.mark:])
		wantBox(t, "all", b, m.mark, len(m.all), m.from(0, math.MaxInt))
	}
	for _, k := range []string{
		"Add", "Add of what may not be",
		"Ack, error 0, above the mark false, of all false", "Ack, error 0, above the mark true, of all false",
		"Ack, error 0, above the mark true, of all true", "Ack, error 7, above the mark false, of all false",
		"From, of 0", "From, of 1", "From, of 2", "From, of 3",
	} {
		if met[k] < 100 {
			t.Errorf("%s: met %d times", k, met[k])
		}
	}
}

// TestShortRows holds all rows of up to six of these calls against the plain list.
func TestShortRows(t *testing.T) {
	const calls, deep = 7, 6
	rows := 1
	for range deep {
		rows *= calls
	}
	for row := range rows {
		b := outbox.New()
		var m model
		for k := row; k > 0; k /= calls {
			switch c := k % calls; c {
			case 0:
				wantNoAdd(t, b, 0, 0, api.Value{}, api.ErrField)
			case 1, 2:
				x := message(len(m.all)+1, c, k%256, num(int64(k)))
				m.all = append(m.all, x)
				wantAdd(t, b, x)
			default:
				seq := m.mark + c - 4
				wantAck(t, b, seq, m.ack(seq))
			}
		}
		if b.Mark() != m.mark || b.Last() != len(m.all) || b.Len() != len(m.all)-m.mark {
			t.Fatal(row, b.Mark(), b.Last(), b.Len())
		}
		wantFrom(t, fmt.Sprint("row ", row), b, 0, math.MaxInt, m.all[m.mark:])
	}
}

// TestMany: a great number of messages goes in and out in order, also while many are there.
func TestMany(t *testing.T) {
	const many, behind = 200000, 50000
	b := outbox.New()
	for k := range many {
		if n, e := b.Add(k%65536, k%256, num(int64(k))); n != k+1 || e != api.OK {
			t.Fatal(k, n, e)
		}
		if k < behind {
			continue
		}
		seq := k + 1 - behind
		l := b.From(seq-1, 1)
		if len(l) != 1 || l[0] != message(seq, (seq-1)%65536, (seq-1)%256, num(int64(seq-1))) {
			t.Fatal(seq, l)
		}
		wantAck(t, b, seq, api.OK)
	}
	for seq := b.Mark() + 1; seq <= many; seq++ {
		if l := b.From(0, 2); l[0].Seq != seq || len(l) != min(2, many+1-seq) {
			t.Fatal(seq, l)
		}
		wantAck(t, b, seq, api.OK)
	}
	wantBox(t, "all gone", b, many, many, nil)
}
