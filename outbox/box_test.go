package outbox_test

import (
	"math"
	"slices"
	"testing"

	"factotum/api"
	"factotum/outbox"
)

// filled is a box to which so many messages were added, and they.
func filled(t *testing.T, n int) (*outbox.Box, []api.Message) {
	t.Helper()
	b := outbox.New()
	var l []api.Message
	for k := range n {
		m := message(k+1, 100+k, k%256, num(int64(-k)))
		if k%3 == 1 {
			m.V = text("t" + string(rune('a'+k%26)))
		}
		wantAdd(t, b, m)
		l = append(l, m)
	}
	return b, l
}

// wantAdd adds a message, which has the next number.
func wantAdd(t *testing.T, b *outbox.Box, m api.Message) {
	t.Helper()
	if n, e := b.Add(m.Flow, m.Step, m.V); n != m.Seq || e != api.OK {
		t.Errorf("Add of %v: %d, error %d", m, n, e)
	}
}

// wantNoAdd checks that there is no message with these, and this error.
func wantNoAdd(t *testing.T, b *outbox.Box, flow, step int, v api.Value, want api.Errno) {
	t.Helper()
	if n, e := b.Add(flow, step, v); n != 0 || e != want {
		t.Errorf("Add of %d, %d and %v: %d, error %d, not %d", flow, step, v, n, e, want)
	}
}

func wantAck(t *testing.T, b *outbox.Box, seq int, want api.Errno) {
	t.Helper()
	if e := b.Ack(seq); e != want {
		t.Errorf("Ack of %d: error %d, not %d", seq, e, want)
	}
}

func wantFrom(t *testing.T, what string, b *outbox.Box, after, n int, l []api.Message) {
	t.Helper()
	if got := b.From(after, n); !slices.Equal(got, l) {
		t.Errorf("%s: From %d, %d of them: %v, not %v", what, after, n, got, l)
	}
}

// firsts is the first n of those whose numbers are above after.
func firsts(l []api.Message, after, n int) []api.Message {
	var found []api.Message
	for _, m := range l {
		if m.Seq > after && len(found) < n {
			found = append(found, m)
		}
	}
	return found
}

// wantBox: this mark, this last number, and these messages, from wherever they are asked for.
func wantBox(t *testing.T, what string, b *outbox.Box, mark, last int, l []api.Message) {
	t.Helper()
	if b.Mark() != mark || b.Last() != last || b.Len() != len(l) {
		t.Errorf("%s: Mark %d, Last %d, Len %d, not %d, %d, %d", what, b.Mark(), b.Last(), b.Len(), mark, last, len(l))
	}
	wantFrom(t, what, b, 0, math.MaxInt, l)
	for _, after := range []int{math.MinInt, -1, 0, 1, mark - 1, mark, mark + 1, last - 1, last, last + 1, maxSeq, math.MaxInt} {
		for _, n := range []int{math.MinInt, -1, 0, 1, 2, len(l) - 1, len(l), len(l) + 1, math.MaxInt} {
			wantFrom(t, what, b, after, n, firsts(l, after, n))
		}
	}
}

func TestExample(t *testing.T) {
	b := outbox.New()
	for k := range 3 {
		wantAdd(t, b, message(k+1, 7, k, num(int64(k))))
	}
	wantAck(t, b, 2, api.OK)
	wantBox(t, "the chapter's example", b, 2, 3, []api.Message{message(3, 7, 2, num(2))})
}

func TestNew(t *testing.T) {
	b := outbox.New()
	if b == nil {
		t.Fatal("New is nil")
	}
	wantBox(t, "New", b, 0, 0, nil)
	for _, n := range odd {
		if n < 1 {
			wantAck(t, b, n, api.OK)
		} else {
			wantAck(t, b, n, api.ErrIndex)
		}
	}
	wantBox(t, "New, behind Ack", b, 0, 0, nil)
	wantAdd(t, outbox.New(), message(1, 1, 1, num(1)))
	wantBox(t, "New, beside another one", b, 0, 0, nil)
	wantAdd(t, b, message(1, 1, 1, num(1)))
	wantAdd(t, outbox.New(), message(1, 1, 1, num(1)))
}

// TestAdd: the numbers go up by one, whatever is added, also the same again.
func TestAdd(t *testing.T) {
	b := outbox.New()
	var l []api.Message
	for _, flow := range []int{0, 1, 65534, 65535} {
		for _, step := range []int{0, 1, 254, 255} {
			for _, x := range values {
				for range 2 {
					m := message(len(l)+1, flow, step, x.v)
					wantAdd(t, b, m)
					l = append(l, m)
				}
			}
		}
	}
	wantBox(t, "all", b, 0, len(l), l)
}

// TestNoAdd: what may not be isn't added, and uses up no number.
func TestNoAdd(t *testing.T) {
	for _, mark := range []int{0, 3, 5} {
		b, l := filled(t, 5)
		wantAck(t, b, mark, api.OK)
		l = l[mark:]
		for _, n := range odd {
			if n < 0 || n > 65535 {
				wantNoAdd(t, b, n, 0, num(1), api.ErrField)
			}
			if n < 0 || n > 255 {
				wantNoAdd(t, b, 0, n, num(1), api.ErrField)
			}
		}
		for _, v := range wrongValues {
			wantNoAdd(t, b, 0, 0, v, api.ErrField)
			wantNoAdd(t, b, -1, 0, v, api.ErrField)
			wantNoAdd(t, b, 0, 256, v, api.ErrField)
		}
		wantBox(t, "behind what may not be", b, mark, 5, l)
		m := message(6, 65535, 255, text("0123456789"))
		wantAdd(t, b, m)
		wantBox(t, "behind one that may be", b, mark, 6, append(l, m))
	}
}

// TestAck: Mark, Last, Len and what is there, ahead of and behind each one.
func TestAck(t *testing.T) {
	b, l := filled(t, 10)
	wantBox(t, "none", b, 0, 10, l)
	for _, x := range []struct {
		seq  int
		want api.Errno
		mark int
	}{
		{0, api.OK, 0},
		{-1, api.OK, 0},
		{11, api.ErrIndex, 0},
		{1, api.OK, 1},
		{1, api.OK, 1},
		{0, api.OK, 1},
		{3, api.OK, 3},
		{2, api.OK, 3},
		{3, api.OK, 3},
		{math.MinInt, api.OK, 3},
		{math.MaxInt, api.ErrIndex, 3},
		{maxSeq, api.ErrIndex, 3},
		{11, api.ErrIndex, 3},
		{4, api.OK, 4},
		{9, api.OK, 9},
		{11, api.ErrIndex, 9},
		{5, api.OK, 9},
		{10, api.OK, 10},
		{10, api.OK, 10},
		{11, api.ErrIndex, 10},
		{9, api.OK, 10},
		{0, api.OK, 10},
	} {
		wantAck(t, b, x.seq, x.want)
		wantBox(t, "behind Ack", b, x.mark, 10, l[x.mark:])
	}
	// The numbers go on behind those that are all gone.
	m := message(11, 1, 2, num(3))
	wantAdd(t, b, m)
	wantBox(t, "added behind all", b, 10, 11, []api.Message{m})
	wantAck(t, b, 11, api.OK)
	wantBox(t, "all gone again", b, 11, 11, nil)
	wantAck(t, b, 12, api.ErrIndex)
	wantNoAdd(t, b, 0, 0, api.Value{}, api.ErrField)
	wantAck(t, b, 12, api.ErrIndex)
	wantAdd(t, b, message(12, 1, 2, num(3)))
	wantAck(t, b, 12, api.OK)
}

// TestAckOfEach: from each mark to each other number, with messages added behind it.
func TestAckOfEach(t *testing.T) {
	const many = 12
	for first := range many + 1 {
		for then := range many + 1 {
			b, l := filled(t, many)
			wantAck(t, b, first, api.OK)
			wantAck(t, b, then, api.OK)
			mark := max(first, then)
			wantBox(t, "both gone", b, mark, many, l[mark:])
			for k := range 3 {
				m := message(many+1+k, k, k, text("new"))
				wantAdd(t, b, m)
				l = append(l, m)
			}
			wantBox(t, "added behind both", b, mark, many+3, l[mark:])
		}
	}
}

// TestToldStays: what From told doesn't change by later calls, and who changes it changes nothing else.
func TestToldStays(t *testing.T) {
	b, l := filled(t, 20)
	l = slices.Clip(l)
	type answer struct{ got, want []api.Message }
	var told []answer
	ask := func(after, n int) {
		got := b.From(after, n)
		told = append(told, answer{got, slices.Clone(got)})
	}
	for mark := range 21 {
		wantAck(t, b, mark, api.OK)
		for n := range 4 {
			ask(mark, n)
			ask(mark+n, 30)
		}
		m := message(21+mark, 1, 1, text("more"))
		wantAdd(t, b, m)
		l = append(l, m)
		ask(0, 100)
	}
	wantAck(t, b, b.Last(), api.OK)
	for _, x := range told {
		if !slices.Equal(x.got, x.want) {
			t.Errorf("told %v, now %v", x.want, x.got)
		}
	}
}

// TestNewMemory: of two answers neither has the other's memory, nor the box's.
func TestNewMemory(t *testing.T) {
	b, l := filled(t, 20)
	wantAck(t, b, 3, api.OK)
	l = l[3:]
	for _, n := range []int{1, 5, 16, 17, 100} {
		x, y := b.From(0, n), b.From(0, n)
		for k := range x {
			x[k] = message(9, 9, 9, text("other"))
		}
		x = append(x, message(9, 9, 9, text("other")))
		if !slices.Equal(y, l[:min(n, len(l))]) {
			t.Errorf("%d: %v behind a change of %v", n, y, x)
		}
		wantBox(t, "behind a change of what was told", b, 3, 20, l)
	}
	for _, n := range []int{0, -1} {
		x := append(b.From(5, n), message(9, 9, 9, text("other")))
		wantBox(t, "behind a change of no messages", b, 3, 20, l)
		x = append(b.From(20, 1), x...)
		wantBox(t, "behind a change of no messages", b, 3, 20, l)
	}
	m := message(21, 1, 1, num(1))
	wantAdd(t, b, m)
	wantBox(t, "added behind that", b, 3, 21, append(l, m))
}

func TestNil(t *testing.T) {
	var b *outbox.Box
	for _, n := range odd {
		wantAck(t, b, n, api.ErrArg)
		for _, k := range odd {
			wantFrom(t, "nil", b, n, k, nil)
			wantNoAdd(t, b, n, k, num(1), api.ErrArg)
		}
	}
	for _, x := range values {
		wantNoAdd(t, b, 0, 0, x.v, api.ErrArg)
	}
	for _, v := range wrongValues {
		wantNoAdd(t, b, 0, 0, v, api.ErrArg)
	}
	if b.Mark() != 0 || b.Last() != 0 || b.Len() != 0 {
		t.Error(b.Mark(), b.Last(), b.Len())
	}
}

// TestZero: a box that New didn't make is without messages, too.
func TestZero(t *testing.T) {
	var b outbox.Box
	wantBox(t, "zero", &b, 0, 0, nil)
	wantAck(t, &b, 0, api.OK)
	wantAck(t, &b, 1, api.ErrIndex)
	m := message(1, 2, 3, num(4))
	wantAdd(t, &b, m)
	wantBox(t, "zero, with one", &b, 0, 1, []api.Message{m})
	wantAck(t, &b, 1, api.OK)
	wantBox(t, "zero, with none", &b, 1, 1, nil)
}
