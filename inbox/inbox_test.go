package inbox_test

import (
	"math"
	"slices"
	"testing"

	"factotum/api"
	"factotum/inbox"
)

// odd is numbers at the edges, and about them.
var odd = []int{
	math.MinInt, math.MinInt + 1, -1 << 32, -1<<31 - 1, -1 << 31, -65536, -256, -2, -1, 0, 1, 2, 3,
	255, 256, 257, 65535, 65536, 65537, 1<<31 - 2, 1<<31 - 1, 1 << 31,
	1<<32 - 1, 1 << 32, 1<<32 + 1, math.MaxInt - 1, math.MaxInt,
}

// verdicts are those that there are, and numbers that are none.
var verdicts = []inbox.Verdict{
	inbox.Taken, inbox.Again, inbox.Early, inbox.Other, inbox.None,
	0, -1, -2, -5, -6, 6, 7, 255, 256, 257, 1 << 32, 1<<32 + 1, math.MinInt, math.MinInt + 1, math.MaxInt - 1, math.MaxInt,
}

// message is one with this number, whose other fields are made of it.
func message(seq int) api.Message {
	m := api.Message{Seq: seq, Flow: 100 - seq, Step: seq % 7, V: api.Value{Kind: api.Int, N: int64(-seq)}}
	if seq%3 == 1 {
		m.V = api.Value{Kind: api.Text, S: "t" + string(rune('a'+seq%26))}
	}
	return m
}

// stream is the messages with the numbers from first to last.
func stream(first, last int) []api.Message {
	var l []api.Message
	for seq := first; seq <= last; seq++ {
		l = append(l, message(seq))
	}
	return l
}

// others are messages that aren't m, but have its number: each differs in one field.
func others(m api.Message) []api.Message {
	var l []api.Message
	put := func(change func(*api.Message)) {
		x := m
		change(&x)
		l = append(l, x)
	}
	for _, n := range []int{1, -1, 1 << 8, 1 << 16, 1 << 32, math.MinInt} {
		put(func(x *api.Message) { x.Flow += n })
		put(func(x *api.Message) { x.Step += n })
		put(func(x *api.Message) { x.V.Kind += api.Kind(n) })
		put(func(x *api.Message) { x.V.N += int64(n) })
	}
	put(func(x *api.Message) { x.V.S += "a" })
	put(func(x *api.Message) { x.V.S += "\x00" })
	put(func(x *api.Message) { x.V.S = "T" + x.V.S })
	if m.V.S != "" {
		put(func(x *api.Message) { x.V.S = "" })
		put(func(x *api.Message) { x.V.S = x.V.S[:len(x.V.S)-1] + "\xff" })
	}
	return l
}

// filled is a box that has taken the messages with the numbers from 1 to last.
func filled(t *testing.T, last int) *inbox.Box {
	t.Helper()
	b := inbox.New()
	for _, m := range stream(1, last) {
		wantTake(t, b, m, inbox.Taken)
	}
	return b
}

func wantTake(t *testing.T, b *inbox.Box, m api.Message, want inbox.Verdict) {
	t.Helper()
	if v := b.Take(m); v != want {
		t.Errorf("Take of %v: %d, not %d", m, v, want)
	}
}

func wantTakes(t *testing.T, b *inbox.Box, l []api.Message, want []inbox.Verdict) {
	t.Helper()
	was := slices.Clone(l)
	if got := b.Takes(l); !slices.Equal(got, want) {
		t.Errorf("Takes of %v: %v, not %v", l, got, want)
	}
	if !slices.Equal(l, was) {
		t.Errorf("Takes of %v changes it to %v", was, l)
	}
}

// wantBox: these were taken, in order.
func wantBox(t *testing.T, what string, b *inbox.Box, l []api.Message) {
	t.Helper()
	if got := b.All(); !slices.Equal(got, l) || b.Last() != len(l) {
		t.Errorf("%s: Last %d, All %v, not %d, %v", what, b.Last(), got, len(l), l)
	}
}

// wantCounts: so many of each verdict in its order, Taken first, and of none that isn't there.
func wantCounts(t *testing.T, what string, b *inbox.Box, want [5]int) {
	t.Helper()
	for _, v := range verdicts {
		n := 0
		if 1 <= v && v <= 5 {
			n = want[v-1]
		}
		if got := b.Count(v); got != n {
			t.Errorf("%s: Count of %d: %d, not %d", what, v, got, n)
		}
	}
}

func TestVerdicts(t *testing.T) {
	l := []inbox.Verdict{inbox.Taken, inbox.Again, inbox.Early, inbox.Other, inbox.None}
	if !slices.Equal(l, []inbox.Verdict{1, 2, 3, 4, 5}) {
		t.Error(l)
	}
}

func TestExample(t *testing.T) {
	want := []inbox.Verdict{inbox.Taken, inbox.Taken, inbox.Again, inbox.Again, inbox.Taken, inbox.Early}
	var l []api.Message
	for _, seq := range []int{1, 2, 1, 2, 3, 5} {
		l = append(l, message(seq))
	}
	b := inbox.New()
	for k, m := range l {
		wantTake(t, b, m, want[k])
	}
	wantBox(t, "one by one", b, stream(1, 3))
	b = inbox.New()
	wantTakes(t, b, l, want)
	wantBox(t, "at once", b, stream(1, 3))
	wantCounts(t, "at once", b, [5]int{3, 2, 1, 0, 0})
}

func TestNew(t *testing.T) {
	b := inbox.New()
	if b == nil {
		t.Fatal("New is nil")
	}
	wantBox(t, "New", b, nil)
	wantCounts(t, "New", b, [5]int{})
	wantTake(t, inbox.New(), message(1), inbox.Taken)
	wantBox(t, "New, beside another one", b, nil)
	wantCounts(t, "New, beside another one", b, [5]int{})
	wantTake(t, b, message(1), inbox.Taken)
	wantTake(t, inbox.New(), message(1), inbox.Taken)
}

// TestNext: what has the next number is taken, whatever else it is.
func TestNext(t *testing.T) {
	b := inbox.New()
	var l []api.Message
	for _, m := range append(others(message(1)), others(message(2))...) {
		m.Seq = len(l) + 1
		wantTake(t, b, m, inbox.Taken)
		l = append(l, m)
		wantBox(t, "next", b, l)
	}
	for _, n := range odd {
		for _, v := range []api.Value{{}, {Kind: 3, N: 1}, {Kind: -1}, {Kind: api.Int, S: "a"}, {Kind: api.Text, N: int64(n), S: "far longer than 10 bytes"}} {
			m := api.Message{Seq: len(l) + 1, Flow: n, Step: -n, V: v}
			wantTake(t, b, m, inbox.Taken)
			wantTake(t, b, m, inbox.Again)
			l = append(l, m)
		}
	}
	wantBox(t, "all", b, l)
	wantCounts(t, "all", b, [5]int{len(l), 5 * len(odd), 0, 0, 0})
	for _, m := range l {
		wantTake(t, b, m, inbox.Again)
	}
	wantBox(t, "all again", b, l)
}

// TestCame: each one that came already is told, and another one with its number, too.
func TestCame(t *testing.T) {
	for last := range 10 {
		b := filled(t, last)
		l := stream(1, last)
		other := 0
		for _, m := range l {
			wantTake(t, b, m, inbox.Again)
			for _, x := range others(m) {
				wantTake(t, b, x, inbox.Other)
				other++
			}
			wantTake(t, b, m, inbox.Again)
			wantBox(t, "behind others", b, l)
		}
		wantCounts(t, "behind others", b, [5]int{last, 2 * last, 0, other, 0})
		wantTake(t, b, message(last+1), inbox.Taken)
		wantBox(t, "behind the next one", b, stream(1, last+1))
	}
}

// TestEarlyAndNone: numbers behind the next one, and below 1, at boxes of all sizes up to 10.
func TestEarlyAndNone(t *testing.T) {
	for last := range 11 {
		b := filled(t, last)
		early, none := 0, 0
		for _, seq := range append([]int{last + 2, last + 3, last + 100}, odd...) {
			m := message(seq)
			if seq < 1 {
				wantTake(t, b, m, inbox.None)
				none++
			} else if seq > last+1 {
				wantTake(t, b, m, inbox.Early)
				early++
			}
			wantBox(t, "behind early ones and none", b, stream(1, last))
		}
		wantTake(t, b, api.Message{}, inbox.None)
		wantCounts(t, "behind early ones and none", b, [5]int{last, 0, early, 0, none + 1})
		// What came too early was not taken: so it isn't known when its number is the next one.
		other := message(last + 2)
		other.Flow++
		wantTake(t, b, message(last+2), inbox.Early)
		wantTake(t, b, message(last+1), inbox.Taken)
		wantTake(t, b, other, inbox.Taken)
		wantTake(t, b, message(last+2), inbox.Other)
		wantBox(t, "behind the next ones", b, append(stream(1, last+1), other))
	}
}

// TestTakes: of a row the same is told as of each, one behind the other.
func TestTakes(t *testing.T) {
	other := message(2)
	other.V.N++
	rows := [][]api.Message{
		nil,
		{},
		{message(1)},
		{message(1), message(1)},
		{message(2), message(1), message(2), message(2)},
		{message(2), message(1), other, message(2), other},
		{message(0), message(-1), message(math.MinInt), message(math.MaxInt), {}},
		append(stream(1, 5), stream(1, 5)...),
		append(stream(-3, 5), stream(2, 8)...),
		append(stream(3, 5), stream(0, 8)...),
		slices.Repeat(stream(1, 3), 4),
		others(message(1)),
	}
	for last := range 6 {
		whole, each := filled(t, last), filled(t, last)
		for range 2 {
			for _, l := range rows {
				var want []inbox.Verdict
				for _, m := range l {
					want = append(want, each.Take(m))
				}
				wantTakes(t, whole, l, want)
				wantBox(t, "a row", whole, each.All())
				for _, v := range verdicts {
					if whole.Count(v) != each.Count(v) {
						t.Errorf("Count of %d: %d, not %d", v, whole.Count(v), each.Count(v))
					}
				}
			}
		}
	}
}

// TestHandedIn: a row that is handed in may be changed behind the call, and so may the verdicts.
func TestHandedIn(t *testing.T) {
	for n := range 6 {
		b := inbox.New()
		l := make([]api.Message, 0, 20)
		l = append(l, stream(1, n)...)
		behind := l[:cap(l)][n:]
		told := b.Takes(l)
		for k := range behind {
			if (behind[k] != api.Message{}) {
				t.Error("changed behind its end", behind[k])
			}
		}
		for k := range l {
			l[k].Flow, l[k].V.S = -1, "changed"
		}
		for k := range told {
			told[k] = inbox.None
		}
		wantBox(t, "behind a change of what was handed in", b, stream(1, n))
		for _, m := range stream(1, n) {
			wantTake(t, b, m, inbox.Again)
		}
		wantTake(t, b, message(n+1), inbox.Taken)
		if len(behind) > 0 && (behind[0] != api.Message{}) {
			t.Error("a later message lies in what was handed in", behind[0])
		}
		wantCounts(t, "behind a change of verdicts", b, [5]int{n + 1, n, 0, 0, 0})
	}
}

// TestVerdictsStay: what Takes told isn't changed by a later call.
func TestVerdictsStay(t *testing.T) {
	b := inbox.New()
	first := b.Takes(stream(1, 3))
	again := b.Takes(stream(1, 3))
	if !slices.Equal(first, []inbox.Verdict{inbox.Taken, inbox.Taken, inbox.Taken}) {
		t.Error(first)
	}
	if !slices.Equal(again, []inbox.Verdict{inbox.Again, inbox.Again, inbox.Again}) {
		t.Error(again)
	}
}

// TestAllIsNew: All shares nothing with the box, nor with another All.
func TestAllIsNew(t *testing.T) {
	b := inbox.New()
	var told [][]api.Message
	for last := range 20 {
		l := stream(1, last)
		changed, kept := b.All(), b.All()
		for k := range changed {
			changed[k] = message(-7)
		}
		changed = append(changed, message(-8), message(-9))
		if !slices.Equal(kept, l) {
			t.Errorf("%v behind a change of %v", kept, changed)
		}
		wantBox(t, "behind a change of what was told", b, l)
		for _, m := range l {
			wantTake(t, b, m, inbox.Again)
		}
		told = append(told, kept)
		wantTake(t, b, message(last+1), inbox.Taken)
		wantBox(t, "taken behind a change of what was told", b, stream(1, last+1))
		for k, x := range told {
			if !slices.Equal(x, stream(1, k)) {
				t.Errorf("told of %d, now %v", k, x)
			}
		}
	}
	// Nor does one that is put behind what was told come to where the box keeps its next one.
	x := b.All()
	wantTake(t, b, message(21), inbox.Taken)
	x = append(x, message(-1))
	wantBox(t, "put behind what was told", b, stream(1, 21))
	if x[20] != message(-1) {
		t.Error(x[20])
	}
}

func TestNil(t *testing.T) {
	var b *inbox.Box
	for range 2 {
		for _, n := range odd {
			wantTake(t, b, message(n), inbox.None)
		}
		wantTake(t, b, api.Message{}, inbox.None)
		wantTakes(t, b, nil, nil)
		wantTakes(t, b, []api.Message{}, nil)
		wantTakes(t, b, stream(0, 3), []inbox.Verdict{inbox.None, inbox.None, inbox.None, inbox.None})
		wantBox(t, "nil", b, nil)
		wantCounts(t, "nil", b, [5]int{})
	}
}

// TestZero: a box that New didn't make has taken none, too.
func TestZero(t *testing.T) {
	var b inbox.Box
	wantBox(t, "zero", &b, nil)
	wantCounts(t, "zero", &b, [5]int{})
	wantTake(t, &b, message(2), inbox.Early)
	wantTake(t, &b, message(1), inbox.Taken)
	wantTakes(t, &b, stream(0, 2), []inbox.Verdict{inbox.None, inbox.Again, inbox.Taken})
	wantBox(t, "zero, with two", &b, stream(1, 2))
	wantCounts(t, "zero, with two", &b, [5]int{2, 1, 1, 0, 1})
}
