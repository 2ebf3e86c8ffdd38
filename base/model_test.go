package base_test

import (
	"fmt"
	"maps"
	"slices"
	"strings"
	"testing"

	"factotum/api"
	"factotum/base"
	"factotum/cache"
	"factotum/device"
	"factotum/pager"
	"factotum/space"
	"factotum/tree"
)

// plain is plain tables: the second reading of what a transaction has.
type plain map[string]map[string]string

func (p plain) clone() plain {
	q := plain{}
	for name, pairs := range p {
		q[name] = maps.Clone(pairs)
	}
	return q
}

func (p plain) names() []string { return slices.Sorted(maps.Keys(p)) }

func (p plain) scan(name, from, to string) []api.Pair {
	var l []api.Pair
	for _, key := range slices.Sorted(maps.Keys(p[name])) {
		if key >= from && (to == "" || key < to) {
			l = append(l, api.Pair{Key: key, Value: p[name][key]})
		}
	}
	return l
}

// wantPlain says that a transaction hasn't just what the plain tables have, or isn't sound.
func wantPlain(t testing.TB, what string, x *base.Tx, p plain) {
	t.Helper()
	if !slices.Equal(x.Names(), p.names()) {
		t.Fatalf("%s: the names are %q, not %q", what, x.Names(), p.names())
	}
	for name, pairs := range p {
		if n, e := x.Count(name); n != len(pairs) || e != api.OK {
			t.Fatalf("%s: count of %s: %d and %d, not %d", what, name, n, e, len(pairs))
		}
		if l, e := x.Scan(name, "", ""); !slices.Equal(l, p.scan(name, "", "")) || e != api.OK {
			t.Fatalf("%s: %s has %q and %d, not %q", what, name, l, e, p.scan(name, "", ""))
		}
	}
	if !x.Sound() {
		t.Fatalf("%s: not sound", what)
	}
}

// held is a base with a transaction, and what both should have.
type held struct {
	t     testing.TB
	pages int
	d     *device.Device
	b     *base.Base
	x     *base.Tx

	// now is what the transaction should have, was what its notes, last what the base.
	now, last plain
	was       []plain

	// The same steps, done by the layers below: they tell where there is no room, and how many pages are changed.
	c     *cache.Cache
	w     *space.Work
	roots []map[string]int

	// full and long are how often there was no room, and too much to commit.
	full, long int
}

func holds(t testing.TB, pages int) *held {
	t.Helper()
	h := &held{t: t, pages: pages, d: fresh(pages), last: plain{}}
	h.b = opened(t, h.d, pages)
	p, _ := onPages(t, pages)
	h.c = cache.New(p, 4)
	h.roots = []map[string]int{{}}
	h.begin()
	return h
}

// begin begins with what the base should have. The first of roots is of the last commit, the last of what is there now, and of each note there is one between.
func (h *held) begin() {
	h.t.Helper()
	h.x = begun(h.t, h.b)
	h.now, h.was = h.last.clone(), nil
	w, e := space.Begin(h.c)
	if e != api.OK {
		h.t.Fatal(e)
	}
	h.w = w
	h.roots = []map[string]int{h.roots[0], maps.Clone(h.roots[0])}
}

func (h *held) root() map[string]int { return h.roots[len(h.roots)-1] }

func (h *held) equal(what string, got, e api.Errno) {
	h.t.Helper()
	if got != e {
		h.t.Fatalf("%s: %d, not %d", what, got, e)
	}
}

func (h *held) make(name string) {
	h.t.Helper()
	e := api.OK
	if _, there := h.now[name]; there {
		e = api.ErrTwice
	} else if len(h.now) == 12 {
		e = api.ErrLong
	}
	h.equal("make "+name, h.x.Make(name), e)
	if e == api.OK {
		h.now[name] = map[string]string{}
	}
}

func (h *held) kill(name string) {
	h.t.Helper()
	e := api.ErrIndex
	if _, there := h.now[name]; there {
		e = tree.Drop(h.w, h.root()[name])
		delete(h.root(), name)
		delete(h.now, name)
	}
	h.equal("kill "+name, h.x.Kill(name), e)
}

func (h *held) put(name, key, value string) {
	h.t.Helper()
	what := fmt.Sprintf("put %q into %s", key, name)
	if _, there := h.now[name]; !there {
		h.equal(what, h.x.Put(name, key, value), api.ErrIndex)
		return
	}
	root, e := tree.Put(h.w, h.root()[name], key, value)
	h.equal(what, h.x.Put(name, key, value), e)
	if e == api.OK {
		h.root()[name] = root
		h.now[name][key] = value
	} else if h.full++; e != api.ErrFull {
		h.t.Fatalf("%s: %d", what, e)
	}
}

func (h *held) cut(name, key string) {
	h.t.Helper()
	what := fmt.Sprintf("delete %q of %s", key, name)
	e := api.ErrIndex
	if _, there := h.now[name]; there {
		h.root()[name], _, e = tree.Delete(h.w, h.root()[name], key)
	}
	_, had := h.now[name][key]
	there, err := h.x.Delete(name, key)
	if err != e || there != had {
		h.t.Fatalf("%s: %v and %d, not %v and %d", what, there, err, had, e)
	}
	delete(h.now[name], key)
}

func (h *held) get(name, key string) {
	h.t.Helper()
	pairs, e := h.now[name], api.OK
	if pairs == nil {
		e = api.ErrIndex
	}
	value, there := pairs[key]
	if v, ok, err := h.x.Get(name, key); v != value || ok != there || err != e {
		h.t.Fatalf("get %q of %s: %q, %v and %d, not %q, %v and %d", key, name, v, ok, err, value, there, e)
	}
}

func (h *held) scan(name, from, to string) {
	h.t.Helper()
	e := api.OK
	if h.now[name] == nil {
		e = api.ErrIndex
	}
	if l, err := h.x.Scan(name, from, to); !slices.Equal(l, h.now.scan(name, from, to)) || err != e {
		h.t.Fatalf("scan %q to %q of %s: %q and %d, not %q and %d", from, to, name, l, err, h.now.scan(name, from, to), e)
	}
}

func (h *held) save() {
	h.t.Helper()
	if k := h.x.Save(); k != len(h.was) || h.w.Save() != k {
		h.t.Fatalf("save: %d, not %d", k, len(h.was))
	}
	h.was = append(h.was, h.now.clone())
	h.roots = append(h.roots, maps.Clone(h.root()))
}

func (h *held) back(k int) {
	h.t.Helper()
	if k < 0 || k >= len(h.was) {
		h.equal(fmt.Sprint("back to ", k), h.x.Back(k), api.ErrIndex)
		return
	}
	h.equal(fmt.Sprint("back to ", k), h.x.Back(k), h.w.Back(k))
	h.now, h.was = h.was[k].clone(), h.was[:k+1]
	h.roots = append(h.roots[:k+2], maps.Clone(h.roots[k+1]))
}

// head is the head as the chapter tells it.
func (h *held) head() string {
	var l []string
	for _, name := range h.now.names() {
		l = append(l, entry(name, h.root()[name], len(h.now[name])))
	}
	return headOf(l...)
}

// commit commits, and says whether it is over; then another one has begun.
func (h *held) commit() bool {
	h.t.Helper()
	h.equal("set head", h.w.SetHead(h.head()), api.OK)
	changed := len(h.w.Changed())
	if changed > 31 {
		h.long++
		calls := h.d.Calls()
		h.equal("commit", h.x.Commit(), api.ErrLong)
		if h.d.Calls() != calls {
			h.t.Fatal("a commit that is too long called the device")
		}
		return false
	}
	h.roots[0] = h.root()
	h.last = h.now
	calls := h.d.Calls()
	h.equal("commit", h.x.Commit(), h.w.Commit())
	if changed > 0 && h.d.Calls()-calls != 8*changed+7 || changed == 0 && h.d.Calls() != calls {
		h.t.Fatalf("a commit of %d pages called the device %d times", changed, h.d.Calls()-calls)
	}
	h.ended()
	return true
}

func (h *held) abort() {
	h.t.Helper()
	h.equal("abort", h.x.Abort(), api.OK)
	h.ended()
}

// ended holds what the device has against what the base should have, and begins again.
func (h *held) ended() {
	h.t.Helper()
	h.equal("a transaction that is over", h.x.Make("over"), api.ErrState)
	page, _ := h.c.Read(0)
	if s := pageOf(h.t, h.d, h.pages, 0); s != page {
		h.t.Fatalf("page 0 is %q, not %q", s, page)
	}
	wantPlain(h.t, "opened anew", begun(h.t, opened(h.t, copied(h.t, h.d), h.pages)), h.last)
	h.begin()
}

// check holds the transaction against what it should have.
func (h *held) check(what string) {
	h.t.Helper()
	wantPlain(h.t, what, h.x, h.now)
}

// steps is what short rows are made of.
func (h *held) steps() []func() {
	long := strings.Repeat("v", 40)
	return []func(){
		func() { h.make("a") },
		func() { h.make("b") },
		func() { h.kill("a") },
		func() { h.put("a", "k", "1") },
		func() { h.put("a", "m", long) },
		func() { h.put("b", "k", "2") },
		func() { h.cut("a", "k") },
		func() { h.save() },
		func() { h.back(0) },
		func() { h.back(1) },
		func() { h.commit() },
		func() { h.abort() },
	}
}

// TestShortRows: all rows of up to four steps, from the beginning on and behind some others; each is looked at behind its last step.
func TestShortRows(t *testing.T) {
	for _, c := range []struct {
		pages int
		ahead []int
	}{{4, nil}, {4, []int{0, 3, 7}}, {2, []int{0, 1, 4, 10}}} {
		t.Run(fmt.Sprint(c), func(t *testing.T) {
			t.Parallel()
			eachRow(4, nil, func(row []int) {
				h := holds(t, c.pages)
				l := h.steps()
				for _, k := range slices.Concat(c.ahead, row) {
					l[k]()
				}
				h.check(fmt.Sprint("row ", row))
			})
		})
	}
}

// eachRow does something with all rows of up to so many steps more.
func eachRow(steps int, row []int, do func(row []int)) {
	do(row)
	if steps == 0 {
		return
	}
	for k := range (*held)(nil).steps() {
		eachRow(steps-1, append(slices.Clip(row), k), do)
	}
}

// TestDrawnRows: long drawn rows of steps, on few pages and on many, each one held against plain tables.
func TestDrawnRows(t *testing.T) {
	full, long := 0, 0
	for seed := range 104 {
		dr := draws(seed)
		pages := []int{1, 2, 3, 5, 9, 20, 60, api.Pages}[seed%8]
		h := holds(t, pages)
		names := []string{"_", "a", "aa", "abcdefgh", "b", "c", "d_d", "e", "f", "g", "h", "i", "z", "zz"}[:2+dr.below(13)]
		name := func() string { return names[dr.below(len(names))] }
		for step := range 500 {
			drawnStep(h, &dr, name, step/100%2 == 1)
			h.check(fmt.Sprintf("row %d, step %d", seed, step))
		}
		full += h.full
		long += h.long
	}
	if full < 100 || long < 5 {
		t.Error("rows that show too little:", full, long)
	}
}

// drawnStep does one step that is drawn; there are times in which tables shrink.
func drawnStep(h *held, dr *draws, name func() string, shrinks bool) {
	h.t.Helper()
	many := 4 + 3*h.pages
	key := func() string {
		s := fmt.Sprint(dr.below(many))
		return s + strings.Repeat("z", dr.below(2)*dr.below(33-len(s)))
	}
	cuts := 25
	if shrinks {
		cuts = 55
	}
	switch n := dr.below(130); {
	case n < cuts:
		s := name()
		if l := h.now.scan(s, "", ""); len(l) > 0 && dr.below(4) > 0 {
			h.cut(s, l[dr.below(len(l))].Key)
		} else {
			h.cut(s, key())
		}
	case n < 80:
		// In great bases several at once, so that some transactions are too long.
		for range 1 + dr.below(1+h.pages/10) {
			h.put(name(), key(), strings.Repeat("v", dr.below(41)))
		}
	case n < 92:
		h.make(name())
	case n < 94:
		h.kill(name())
	case n < 100:
		h.save()
	case n < 106:
		h.back(dr.below(len(h.was)+2) - 1)
	case n < 112:
		if !h.commit() && dr.below(2) == 0 {
			h.abort()
		}
	case n < 114:
		h.abort()
	case n < 122:
		h.get(name(), key())
	default:
		h.scan(name(), key(), []string{"", key()}[dr.below(2)])
	}
}

// TestGrowAndShrink: each table gets many pairs, in transactions of a few, and loses them again; no page is left used.
func TestGrowAndShrink(t *testing.T) {
	h := holds(t, api.Pages)
	names := []string{"a", "b", "c"}
	for _, name := range names {
		h.make(name)
	}
	for i := range 210 {
		h.put(names[i%3], fmt.Sprintf("%03d%s", i*37%211, strings.Repeat("k", i%29)), strings.Repeat("v", i%41))
		if i%10 == 9 {
			h.commit()
			h.check(fmt.Sprint("grown to ", i))
		}
	}
	if h.full > 0 || h.long > 0 {
		t.Fatal(h.full, h.long)
	}
	for i := range 210 {
		h.cut(names[i%3], fmt.Sprintf("%03d%s", i*37%211, strings.Repeat("k", i%29)))
		if i%10 == 9 {
			h.commit()
			h.check(fmt.Sprint("shrunk by ", i))
		}
	}
	if h.w.Used() != 1 {
		t.Error(h.w.Used(), "pages are used")
	}
}

// TestLayersBelow: a pager that is opened on a base's device reads its pages, and layer 10 its trees.
func TestLayersBelow(t *testing.T) {
	d, _, x := start(t, 20)
	mustMake(t, x, "t")
	fill(t, x, "t", 0, 12)
	want(t, "commit", x.Commit(), api.OK)
	p, e := pager.Open(d, 20)
	want(t, "open", e, api.OK)
	w, e := space.Begin(cache.New(p, 1))
	want(t, "begin", e, api.OK)
	head := w.Head()
	if head[:3] != "\x01\x01t" || head[5:7] != "\x00\x0c" {
		t.Fatalf("the head is %q", head[:8])
	}
	l, e := tree.Scan(w, int(head[3])<<8|int(head[4]), "", "")
	if e != api.OK || len(l) != 12 {
		t.Error(len(l), e)
	}
	if pages, _, ok := tree.Sound(w, int(head[4])); !ok || w.Used() != pages+1 {
		t.Error(pages, ok, w.Used())
	}
}
