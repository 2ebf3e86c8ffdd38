package store_test

import (
	"cmp"
	"encoding/binary"
	"fmt"
	"maps"
	"math"
	"slices"
	"strings"
	"testing"

	"factotum/api"
	"factotum/base"
	"factotum/device"
	"factotum/store"
	"factotum/undo"
)

// draws is a row of numbers that look drawn, the same ones each time.
type draws uint64

func (d *draws) next() uint64 {
	*d = *d*6364136223846793005 + 1442695040888963407
	x := uint64(*d)
	return (x ^ x>>29) * 0xbf58476d1ce4e5b9 >> 16
}

func (d *draws) below(n int) int { return int(d.next() % uint64(n)) }

// The second reading of what bytes are.

func eight(n uint64) string { return string(binary.BigEndian.AppendUint64(nil, n)) }

func keyOf(v api.Value) string {
	if v.Kind == api.Int {
		return "\x01" + eight(uint64(v.N)^1<<63)
	}
	return "\x02" + strings.ReplaceAll(v.S, "\x00", "\x00\xff") + "\x00\x01"
}

func restOf(r api.Row) string {
	s := ""
	for _, v := range r[1:] {
		if v.Kind == api.Int {
			s += eight(uint64(v.N))
		} else {
			s += string([]byte{byte(len(v.S))}) + v.S
		}
	}
	return s
}

func schemaOf(s api.Schema) string {
	b := []byte{byte(len(s.Kinds))}
	for _, k := range s.Kinds {
		b = append(b, byte(k))
	}
	return string(append(b, byte(s.Unique), byte(s.Index)))
}

// fits says whether a value fits a kind.
func fits(k api.Kind, v api.Value) bool {
	return v.Kind == k && (k == api.Int && v.S == "" || k == api.Text && v.N == 0 && len(v.S) <= 10)
}

// right says whether a schema may be.
func right(s api.Schema) bool {
	n := len(s.Kinds)
	if n < 1 || n > 4 || s.Unique < 0 || s.Unique >= n || s.Index < 0 || s.Index >= n {
		return false
	}
	for _, k := range s.Kinds {
		if k != api.Int && k != api.Text {
			return false
		}
	}
	return s.Index == 0 || s.Kinds[s.Index] == api.Int
}

// plainTable is a table of rows in memory.
type plainTable struct {
	schema api.Schema
	rows   []api.Row
}

// at is the number of the row with this first value, -1 if there is none.
func (p plainTable) at(k api.Value) int {
	return slices.IndexFunc(p.rows, func(r api.Row) bool { return r[0] == k })
}

// with is the rows with this value in a column.
func (p plainTable) with(column int, v api.Value) []api.Row {
	var l []api.Row
	for _, r := range p.rows {
		if r[column] == v {
			l = append(l, r)
		}
	}
	return l
}

// plain is plain tables of rows. None of them is ever changed: another one is laid in its place.
type plain map[string]plainTable

func (p plain) names() []string { return slices.Sorted(maps.Keys(p)) }

// bytes is the tables of bytes in which they lie, in order.
func (p plain) bytes() map[string][]api.Pair {
	all := map[string][]api.Pair{}
	for _, name := range p.names() {
		x := p[name]
		all["_s"] = append(all["_s"], api.Pair{Key: name, Value: schemaOf(x.schema)})
		for _, s := range lying(name, x.schema) {
			all[s] = nil
		}
		for _, r := range x.rows {
			for s, pair := range pairsOf(name, x.schema, r) {
				all[s] = append(all[s], pair)
			}
		}
	}
	for _, l := range all {
		slices.SortFunc(l, func(a, b api.Pair) int { return cmp.Compare(a.Key, b.Key) })
	}
	return all
}

// pairsOf is a row's pairs, by the tables of bytes in which they lie.
func pairsOf(name string, s api.Schema, r api.Row) map[string]api.Pair {
	l := map[string]api.Pair{name + "_r": {Key: keyOf(r[0]), Value: restOf(r)}}
	if s.Unique > 0 {
		l[name+"_u"] = api.Pair{Key: keyOf(r[s.Unique]), Value: keyOf(r[0])}
	}
	if s.Index > 0 {
		l[name+"_i"] = api.Pair{Key: keyOf(r[s.Index]) + keyOf(r[0])}
	}
	return l
}

// held is a base with a transaction, and what both should have.
type held struct {
	t     testing.TB
	pages int
	d     *device.Device
	b     *base.Base
	x     *base.Tx

	now, last plain
	notes     []note

	// told counts what calls answered.
	told map[api.Errno]int
}

// note is the number of a note, and what was there then.
type note struct {
	k   int
	was plain
}

func holds(t testing.TB, pages int) *held {
	t.Helper()
	h := &held{t: t, pages: pages, d: device.New(undo.Need(pages)), last: plain{}, told: map[api.Errno]int{}}
	h.b = opened(t, h.d, pages)
	h.begin()
	return h
}

func (h *held) begin() {
	h.t.Helper()
	h.x = begun(h.t, h.b)
	h.now, h.notes = maps.Clone(h.last), nil
}

// equal says that a call's error isn't the one that it should be.
func (h *held) equal(got, e api.Errno, what ...any) {
	h.t.Helper()
	h.told[got]++
	if got != e {
		h.t.Fatalf("%v: %d, not %d", what, got, e)
	}
}

// check holds the transaction against what it should have, byte by byte.
func (h *held) check(what ...any) {
	h.t.Helper()
	bytes := h.now.bytes()
	if l := h.x.Names(); !slices.Equal(l, slices.Sorted(maps.Keys(bytes))) {
		h.t.Fatalf("%v: the tables of bytes are %q, not those of %q", what, l, h.now.names())
	}
	for name, pairs := range bytes {
		if l, e := h.x.Scan(name, "", ""); e != api.OK || !slices.Equal(l, pairs) {
			h.t.Fatalf("%v: %s has %q and %d, not %q", what, name, l, e, pairs)
		}
	}
	if !store.Sound(h.x) {
		h.t.Fatalf("%v: it isn't sound", what)
	}
}

// noRoom says that a call answered ErrFull though the tables of bytes have room for what it would do.
func (h *held) noRoom(then plain, names ...string) {
	h.t.Helper()
	was, now := h.now.bytes(), then.bytes()
	k := h.x.Save()
	e := api.OK
	try := func(err api.Errno) {
		if e == api.OK {
			e = err
		}
	}
	for _, name := range names {
		if _, there := was[name]; !there {
			try(h.x.Make(name))
		}
		for _, p := range was[name] {
			if !slices.ContainsFunc(now[name], func(q api.Pair) bool { return q.Key == p.Key }) {
				_, err := h.x.Delete(name, p.Key)
				try(err)
			}
		}
	}
	for _, name := range names {
		for _, p := range now[name] {
			if !slices.Contains(was[name], p) {
				try(h.x.Put(name, p.Key, p.Value))
			}
		}
	}
	if e != api.ErrFull {
		h.t.Fatalf("there was no room, but doing it answers %d", e)
	}
	h.equal(h.x.Back(k), api.OK, "back")
}

// done takes what a call answered that should have made the tables others, or found no room.
func (h *held) done(e api.Errno, then plain, tables []string, what ...any) {
	h.t.Helper()
	h.told[e]++
	switch e {
	case api.OK:
		h.now = then
	case api.ErrFull:
		h.noRoom(then, tables...)
	default:
		h.t.Fatalf("%v: %d, not 0", what, e)
	}
}

// then is the tables, with one of them as it would be.
func (h *held) then(name string, x plainTable) plain {
	p := maps.Clone(h.now)
	p[name] = x
	return p
}

func (h *held) create(name string, s api.Schema) {
	h.t.Helper()
	e := store.Create(h.x, name, s)
	_, there := h.now[name]
	then := h.then(name, plainTable{schema: s})
	switch {
	case len(name) < 1 || len(name) > 6 || strings.Trim(name, "abcdefghijklmnopqrstuvwxyz") != "":
		h.equal(e, api.ErrArg, "create", name, s)
	case !right(s):
		h.equal(e, api.ErrField, "create", name, s)
	case there:
		h.equal(e, api.ErrTwice, "create", name, s)
	case len(then.bytes()) > 12:
		h.equal(e, api.ErrLong, "create", name, s)
	default:
		h.done(e, then, append(lying(name, s), "_s"), "create", name, s)
	}
}

// refused is the error with which a row isn't put, if there is one.
func (h *held) refused(name string, r api.Row) api.Errno {
	x, there := h.now[name]
	if !there || len(r) != len(x.schema.Kinds) {
		return api.ErrIndex
	}
	for i, v := range r {
		if !fits(x.schema.Kinds[i], v) {
			return api.ErrKind
		}
	}
	if u := x.schema.Unique; u > 0 {
		for _, other := range x.with(u, r[u]) {
			if other[0] != r[0] {
				return api.ErrTwice
			}
		}
	}
	return api.OK
}

func (h *held) put(name string, r api.Row) {
	h.t.Helper()
	e := store.Put(h.x, name, r)
	if err := h.refused(name, r); err != api.OK {
		h.equal(e, err, "put", name, r)
		return
	}
	x := h.now[name]
	x.rows = slices.Clone(x.rows)
	if i := x.at(r[0]); i >= 0 {
		x.rows[i] = r
	} else {
		x.rows = append(x.rows, r)
		slices.SortFunc(x.rows, func(a, b api.Row) int {
			return cmp.Or(cmp.Compare(a[0].N, b[0].N), cmp.Compare(a[0].S, b[0].S))
		})
	}
	h.done(e, h.then(name, x), lying(name, x.schema), "put", name, r)
}

// asked is a table, and the error with which a first value isn't asked for, if there is one.
func (h *held) asked(name string, k api.Value) (plainTable, api.Errno) {
	x, there := h.now[name]
	if !there {
		return x, api.ErrIndex
	}
	if !fits(x.schema.Kinds[0], k) {
		return x, api.ErrKind
	}
	return x, api.OK
}

func (h *held) get(name string, k api.Value) {
	h.t.Helper()
	x, e := h.asked(name, k)
	var r api.Row
	if i := x.at(k); e == api.OK && i >= 0 {
		r = x.rows[i]
	}
	wantGet(h.t, "get", h.x, name, k, r, e)
	h.told[e]++
}

func (h *held) remove(name string, k api.Value) {
	h.t.Helper()
	x, e := h.asked(name, k)
	there, err := store.Remove(h.x, name, k)
	i := x.at(k)
	if e != api.OK || i < 0 {
		h.equal(err, e, "remove", name, k)
		if there {
			h.t.Fatal("remove", name, k, "of none")
		}
		return
	}
	if there != (err == api.OK) {
		h.t.Fatal("remove", name, k, there, err)
	}
	x.rows = slices.Delete(slices.Clone(x.rows), i, i+1)
	h.done(err, h.then(name, x), lying(name, x.schema), "remove", name, k)
}

func (h *held) all(name string) {
	h.t.Helper()
	x, there := h.now[name]
	if !there {
		wantAll(h.t, "all", h.x, name, api.ErrIndex)
		return
	}
	wantAll(h.t, "all", h.x, name, api.OK, x.rows...)
}

func (h *held) by(name string, v api.Value) {
	h.t.Helper()
	x, there := h.now[name]
	u := x.schema.Unique
	switch {
	case !there || u == 0:
		wantBy(h.t, "by", h.x, name, v, nil, api.ErrIndex)
	case !fits(x.schema.Kinds[u], v):
		wantBy(h.t, "by", h.x, name, v, nil, api.ErrKind)
	default:
		var r api.Row
		if l := x.with(u, v); len(l) > 0 {
			r = l[0]
		}
		wantBy(h.t, "by", h.x, name, v, r, api.OK)
	}
}

func (h *held) look(name string, n int64) {
	h.t.Helper()
	x, there := h.now[name]
	if !there || x.schema.Index == 0 {
		wantLook(h.t, "look", h.x, name, n, api.ErrIndex)
		return
	}
	wantLook(h.t, "look", h.x, name, n, api.OK, x.with(x.schema.Index, num(n))...)
}

func (h *held) describe(name string) {
	h.t.Helper()
	wantNames(h.t, "names", h.x, h.now.names()...)
	x, there := h.now[name]
	if !there {
		wantDescribe(h.t, "describe", h.x, name, api.Schema{}, api.ErrIndex)
		return
	}
	wantDescribe(h.t, "describe", h.x, name, x.schema, api.OK)
}

func (h *held) save() {
	h.t.Helper()
	k := h.x.Save()
	if last := len(h.notes) - 1; last >= 0 && k <= h.notes[last].k {
		h.t.Fatalf("a note behind %d is %d", h.notes[last].k, k)
	}
	h.notes = append(h.notes, note{k: k, was: h.now})
}

func (h *held) back(i int) {
	h.t.Helper()
	if i >= len(h.notes) {
		return
	}
	h.equal(h.x.Back(h.notes[i].k), api.OK, "back")
	h.now, h.notes = h.notes[i].was, h.notes[:i+1]
}

// commit commits, or aborts what is too much for it.
func (h *held) commit() {
	h.t.Helper()
	e := h.x.Commit()
	if e == api.ErrLong {
		h.told[e]++
		h.abort()
		return
	}
	h.equal(e, api.OK, "commit")
	h.last = h.now
	h.ended()
}

func (h *held) abort() {
	h.t.Helper()
	h.equal(h.x.Abort(), api.OK, "abort")
	h.ended()
}

// ended opens the base anew behind a crash, and begins again.
func (h *held) ended() {
	h.t.Helper()
	h.d.Crash(nil, -1, 0)
	h.b = opened(h.t, h.d, h.pages)
	h.begin()
}

// steps is what short rows are made of.
func (h *held) steps() []func() {
	return []func(){
		func() { h.create("a", of("iti", 1, 2)) },
		func() { h.create("b", of("ti", 1, 1)) },
		func() { h.put("a", row(1, "x", 5)) },
		func() { h.put("a", row(1, "y", 6)) },
		func() { h.put("a", row(2, "x", 5)) },
		func() { h.put("b", row("k", 1)) },
		func() { h.remove("a", num(1)) },
		func() { h.save() },
		func() { h.back(0) },
		func() { h.commit() },
		func() { h.abort() },
	}
}

// TestShortRows: all rows of up to four steps, on many pages and on few; each is looked at behind its last step.
func TestShortRows(t *testing.T) {
	for _, c := range []struct {
		pages int
		ahead []int
	}{{16, nil}, {16, []int{0, 2, 7}}, {3, []int{0}}, {4, []int{0, 9}}, {5, []int{0, 2, 1}}} {
		t.Run(fmt.Sprint(c), func(t *testing.T) {
			t.Parallel()
			eachRow(4, nil, func(row []int) {
				h := holds(t, c.pages)
				l := h.steps()
				for _, k := range slices.Concat(c.ahead, row) {
					l[k]()
				}
				h.check("row ", row)
				h.asks()
			})
		})
	}
}

// asks asks all that there is to be asked of what short rows have.
func (h *held) asks() {
	h.t.Helper()
	for _, name := range []string{"a", "b", "c"} {
		h.describe(name)
		h.all(name)
		for _, v := range []api.Value{num(1), num(2), num(3), text("k"), text("x"), text("y")} {
			h.get(name, v)
			h.by(name, v)
		}
		for _, n := range []int64{1, 5, 6, 7} {
			h.look(name, n)
		}
	}
}

// eachRow does something with all rows of up to so many steps more.
func eachRow(steps int, row []int, do func(row []int)) {
	do(row)
	if steps == 0 {
		return
	}
	for k := range (*held)(nil).steps() {
		eachRow(steps-1, append(slices.Clip(row), k), do)
	}
}

// script is where the steps of a drawn script are drawn from.
type script struct {
	*draws
	names   []string
	numbers []int64
	texts   []string
}

func (s script) name() string { return s.names[s.below(len(s.names))] }

func (s script) schema() api.Schema {
	if s.below(20) == 0 {
		return []api.Schema{{}, of("iiiii", 0, 0), of("it", 0, 1), of("ii", 2, 0), of("ii", 0, -1), {Kinds: []api.Kind{3}}}[s.below(6)]
	}
	x := api.Schema{}
	for range 1 + s.below(4) {
		x.Kinds = append(x.Kinds, api.Kind(1+s.below(2)))
	}
	if s.below(3) > 0 {
		x.Unique = s.below(len(x.Kinds))
	}
	if i := s.below(len(x.Kinds)); x.Kinds[i] == api.Int {
		x.Index = i
	}
	return x
}

// value is one of a kind, and now and then one that doesn't fit it.
func (s script) value(k api.Kind) api.Value {
	switch n := s.below(60); {
	case n == 0:
		return wrong[s.below(len(wrong))]
	case (k == api.Int) != (n == 1):
		return num(s.numbers[s.below(len(s.numbers))])
	}
	return text(s.texts[s.below(len(s.texts))])
}

// row is one of a table that is there or not, and now and then one too long or too short.
func (s script) row(x plainTable) api.Row {
	var r api.Row
	for _, k := range x.schema.Kinds {
		r = append(r, s.value(k))
	}
	switch n := s.below(60); {
	case n == 0:
		return append(r, s.value(api.Int))
	case n == 1 && len(r) > 0:
		return r[1:]
	case n < 20 && len(r) > 0 && len(x.rows) > 0:
		// One with a first value that is there.
		r[0] = x.rows[s.below(len(x.rows))][0]
	}
	return r
}

// first is a first value of a table, most of all one that is there.
func (s script) first(x plainTable) api.Value {
	if len(x.rows) > 0 && s.below(3) > 0 {
		return x.rows[s.below(len(x.rows))][0]
	}
	if len(x.schema.Kinds) == 0 {
		return s.value(api.Int)
	}
	return s.value(x.schema.Kinds[0])
}

// kindOf is a column's kind, if there is one.
func kindOf(x plainTable, column int) api.Kind {
	if column < len(x.schema.Kinds) {
		return x.schema.Kinds[column]
	}
	return api.Int
}

// step does one step that is drawn; there are times in which tables shrink.
func (s script) step(h *held, shrinks bool) {
	h.t.Helper()
	name := s.name()
	x := h.now[name]
	removes := 20
	if shrinks {
		removes = 60
	}
	switch n := s.below(130); {
	case n < removes:
		h.remove(name, s.first(x))
	case n < 76:
		h.put(name, s.row(x))
	case n < 86:
		h.create(name, s.schema())
	case n < 92:
		h.save()
	case n < 95:
		h.back(s.below(len(h.notes) + 1))
	case n < 101:
		h.commit()
	case n < 102:
		h.abort()
	case n < 108:
		h.get(name, s.first(x))
	case n < 116:
		h.by(name, s.value(kindOf(x, x.schema.Unique)))
	case n < 124:
		h.look(name, s.numbers[s.below(len(s.numbers))])
	case n < 127:
		h.all(name)
	default:
		h.describe(name)
	}
}

// TestDrawnScripts: long drawn scripts, on few pages and on many, each call held against plain tables of rows in memory, and behind each all is looked at.
func TestDrawnScripts(t *testing.T) {
	for part := range 8 {
		t.Run(fmt.Sprint(part), func(t *testing.T) {
			t.Parallel()
			told := map[api.Errno]int{}
			for seed := range 12 {
				h := drawn(t, part, seed, []int{2, 3, 4, 6, 10, 18, 34, api.Pages}[part])
				for e, n := range h.told {
					told[e] += n
				}
			}
			for _, e := range []api.Errno{api.OK, api.ErrArg, api.ErrField, api.ErrIndex, api.ErrKind, api.ErrTwice} {
				// With only one page beside page 0 there are schemas, and no rows.
				if told[e] < 3 && part > 0 {
					t.Error("scripts that show too little:", e, told[e])
				}
			}
			if full := told[api.ErrFull]; part < 5 && full < 20 || part == 7 && full > 0 {
				t.Error("no room:", full)
			}
		})
	}
}

// drawn plays a drawn script.
func drawn(t *testing.T, part, seed, pages int) *held {
	dr := draws(part*1000 + seed)
	h := holds(t, pages)
	s := script{
		draws:   &dr,
		names:   []string{"a", "aa", "abcdef", "b", "z", "zzzzzz", "c", "d", "e", "f", "g", "h", "", "T", "a_r", "abcdefg", "é", "_s"}[:2+dr.below(17)],
		numbers: []int64{0, 1, -1, 7, 255, 256, math.MaxInt64, math.MinInt64, 2, 3, 4, 5}[:3+dr.below(10)],
		texts:   []string{"", "a", "b", "\x00", "\xff", "ab", strings.Repeat("\x00", 10), strings.Repeat("\xff", 10), "a\x00", "ten bytes!", "c"}[:3+dr.below(9)],
	}
	for step := range 400 {
		s.step(h, step/80%2 == 1)
		h.check("part", part, "script", seed, "step", step)
	}
	return h
}

// TestGrowAndShrink: a table gets more rows than a page holds, and loses them again; nothing but its schema is left.
func TestGrowAndShrink(t *testing.T) {
	h := holds(t, api.Pages)
	h.create("t", of("titt", 2, 1))
	kth := func(i int) api.Value { return text(fmt.Sprint("k", i*37%101)) }
	for i := range 101 {
		h.put("t", row(kth(i), i%9, fmt.Sprint("u", i), "v"))
		if i%10 == 0 {
			h.check("grown to", i)
			h.commit()
		}
	}
	for n := range 10 {
		h.look("t", int64(n))
	}
	h.all("t")
	for i := range 101 {
		h.put("t", row(kth(i), (i+1)%9, fmt.Sprint("w", i), "v"))
		if i%7 == 0 {
			h.check("moved up to", i)
			h.commit()
		}
	}
	for i := range 101 {
		h.by("t", text(fmt.Sprint("u", i)))
		h.by("t", text(fmt.Sprint("w", i)))
		h.remove("t", kth(i))
		if i%7 == 0 {
			h.check("shrunk by", i)
			h.commit()
		}
	}
	h.check("shrunk")
	if h.told[api.ErrFull] > 0 || h.told[api.ErrLong] > 0 {
		t.Error(h.told)
	}
}

// TestFullInTheMidst: where there is no room, nothing has changed, also where the first pairs of a row, or the first tables of bytes, had room.
func TestFullInTheMidst(t *testing.T) {
	midst := 0
	for pages := 1; pages < 14; pages++ {
		for _, s := range []api.Schema{of("itit", 0, 0), of("itit", 1, 0), of("itit", 0, 2), of("itit", 1, 2)} {
			h := holds(t, pages)
			h.create("t", s)
			h.check("created on", pages)
			if len(h.now) == 0 {
				continue
			}
			for i := 0; h.told[api.ErrFull] < 5 && i < 1000; i++ {
				r := row(i*7%1000, fmt.Sprint("u", i), i%5, strings.Repeat("x", i%11))
				full := h.told[api.ErrFull]
				h.put("t", r)
				h.check("put on", pages)
				if h.told[api.ErrFull] == full {
					continue
				}
				k := h.x.Save()
				if h.x.Put("t_r", keyOf(r[0]), restOf(r)) == api.OK {
					midst++
				}
				h.equal(h.x.Back(k), api.OK, "back")
				// What is there can be put again as it is, and be removed.
				for _, r := range h.now["t"].rows {
					h.equal(store.Put(h.x, "t", r), api.OK, "put again", r)
				}
				h.check("put again on", pages)
			}
			if h.told[api.ErrFull] == 0 {
				t.Error("there was always room on", pages)
			}
			for _, r := range h.now["t"].rows {
				h.remove("t", r[0])
				h.check("removed on", pages)
			}
		}
	}
	if midst < 10 {
		t.Error("too few calls ended in the midst:", midst)
	}
}

// TestFullCreate: of a table that can't be created no table of bytes is left.
func TestFullCreate(t *testing.T) {
	x := start(t, 1)
	for _, s := range []api.Schema{of("i", 0, 0), of("iti", 1, 2)} {
		still(t, x, "no page", func() { want(t, "no page", store.Create(x, "t", s), api.ErrFull) })
		wantSound(t, "no page", x, true)
		wantNames(t, "no page", x)
		wantNoTable(t, "no page", x, "t")
	}
	// ErrLong is told ahead of it, and so is all that is wrong with the arguments.
	for i := range 10 {
		want(t, "make", x.Make("z"+string(rune('a'+i))), api.OK)
	}
	want(t, "room for one table", store.Create(x, "t", of("i", 0, 0)), api.ErrFull)
	want(t, "too many tables", store.Create(x, "t", of("ii", 1, 0)), api.ErrLong)
	want(t, "a name that may not be", store.Create(x, "T", of("i", 0, 0)), api.ErrArg)
	want(t, "a schema that may not be", store.Create(x, "t", of("i", 1, 0)), api.ErrField)
}
