package base_test

import (
	"fmt"
	"slices"
	"strings"
	"testing"

	"factotum/api"
	"factotum/base"
	"factotum/device"
	"factotum/undo"
)

// draws is a row of numbers that look drawn, the same ones each time.
type draws uint64

func (d *draws) next() uint64 {
	*d = *d*6364136223846793005 + 1442695040888963407
	x := uint64(*d)
	return (x ^ x>>29) * 0xbf58476d1ce4e5b9 >> 16
}

func (d *draws) below(n int) int { return int(d.next() % uint64(n)) }

// crash is a crash: which unsure sectors are kept, which one is torn, and where.
type crash struct {
	keep      []bool
	torn, cut int
}

func (c crash) of(d *device.Device) { d.Crash(c.keep, c.torn, c.cut) }

// crash is a drawn one.
func (d *draws) crash() crash {
	c := crash{torn: d.below(14) - 2, cut: []int{d.below(65), d.below(8), -1, 64, 100}[d.below(5)]}
	for range d.below(12) {
		c.keep = append(c.keep, d.below(2) == 0)
	}
	return c
}

// kinds is each kind of what is kept of so many unsure sectors, with each of them torn behind some bytes.
func kinds(unsure int, cuts ...int) []crash {
	var l []crash
	for _, keep := range [][]bool{nil, {true}, {true, false}, {false, true}, {false, false, true, true, true}} {
		l = append(l, crash{keep, -1, 0})
		for torn := range unsure {
			for _, cut := range cuts {
				l = append(l, crash{keep, torn, cut})
			}
		}
	}
	return l
}

// scene is a base with what was committed last, and a transaction that is to be committed.
type scene struct {
	d             *device.Device
	b             *base.Base
	x             *base.Tx
	ahead, behind plain
}

const scenePages = 12

// newScene changes several pages in its transaction: tables come and go, pairs come, go and change, a tree grows.
func newScene(t testing.TB) scene {
	t.Helper()
	d, b, x := start(t, scenePages)
	long := strings.Repeat("v", 40)
	mustMake(t, x, "t", "s", "e")
	v := map[string]string{}
	for _, key := range strings.Split("abcdefghijklm", "") {
		mustPut(t, x, "t", key, long)
		v[key] = long
	}
	mustPut(t, x, "s", "k", "0")
	want(t, "commit of the first", x.Commit(), api.OK)
	s := scene{d: d, b: b, x: begun(t, b), ahead: plain{"t": v, "s": {"k": "0"}, "e": {}}}
	s.behind = s.ahead.clone()
	x = s.x
	mustPut(t, x, "t", "b", "other", "jj", long, "jk", long)
	wantDelete(t, "f", x, "t", "f", true, api.OK)
	want(t, "kill", x.Kill("s"), api.OK)
	mustMake(t, x, "u")
	mustPut(t, x, "u", "new", "1")
	s.behind["t"]["b"], s.behind["t"]["jj"], s.behind["t"]["jk"] = "other", long, long
	delete(s.behind["t"], "f")
	delete(s.behind, "s")
	s.behind["u"] = map[string]string{"new": "1"}
	return s
}

// isPlain says whether a transaction has just what the plain tables have.
func isPlain(x *base.Tx, p plain) bool {
	if !slices.Equal(x.Names(), p.names()) {
		return false
	}
	for name := range p {
		l, e := x.Scan(name, "", "")
		if e != api.OK || !slices.Equal(l, p.scan(name, "", "")) {
			return false
		}
	}
	return true
}

// either opens a base behind a crash: it has all as ahead or all as behind, and is sound. It says which.
func either(t testing.TB, what string, d *device.Device, pages int, ahead, behind plain) (isBehind bool) {
	t.Helper()
	x := begun(t, opened(t, d, pages))
	isBehind = isPlain(x, behind)
	if isBehind {
		wantPlain(t, what, x, behind)
	} else {
		wantPlain(t, what, x, ahead)
	}
	return isBehind
}

// sceneCalls is how many calls of the device the scene's commit makes.
func sceneCalls(t testing.TB) int {
	t.Helper()
	s := newScene(t)
	wantPlain(t, "ahead", begun(t, opened(t, copied(t, s.d), scenePages)), s.ahead)
	wantPlain(t, "the transaction", s.x, s.behind)
	calls := s.d.Calls()
	want(t, "commit", s.x.Commit(), api.OK)
	wantPlain(t, "behind", begun(t, opened(t, copied(t, s.d), scenePages)), s.behind)
	return s.d.Calls() - calls
}

// stopped is a scene whose commit found, from a call on, that the device stood still.
func stopped(t testing.TB, at, calls int) scene {
	t.Helper()
	s := newScene(t)
	s.d.Stop(at)
	e := api.ErrCrash
	if at >= calls {
		e = api.OK
	}
	if got := s.x.Commit(); got != e {
		t.Fatalf("commit, standing still at %d: %d, not %d", at, got, e)
	}
	return s
}

// TestCrashAtEachCallOfACommit: each kind of what is kept and torn.
func TestCrashAtEachCallOfACommit(t *testing.T) {
	calls := sceneCalls(t)
	if calls < 8*6+7 {
		t.Fatal("a commit of", calls, "calls shows too little")
	}
	went, stayed := 0, 0
	for at := range calls + 2 {
		unsure := len(stopped(t, at, calls).d.Unsure())
		for _, c := range kinds(unsure, 0, 1, 21, 33, 64) {
			what := fmt.Sprintf("at %d, %v", at, c)
			s := stopped(t, at, calls)
			c.of(s.d)
			if either(t, what, s.d, scenePages, s.ahead, s.behind) {
				went++
			} else if stayed++; at >= calls {
				t.Fatalf("%s: a commit that ended well is gone", what)
			}
		}
	}
	if went == 0 || stayed == 0 {
		t.Error("crashes that show too little:", went, stayed)
	}
}

// TestCrashWithinTheOpening: a crash at each call of a commit, and another one at each call of the opening behind it.
func TestCrashWithinTheOpening(t *testing.T) {
	calls := sceneCalls(t)
	within := 0
	for at := range calls {
		for _, c := range []crash{{nil, -1, 0}, {[]bool{true}, -1, 0}, {[]bool{false, true}, 1, 33}, {[]bool{true, false}, 0, 1}} {
			for then := 0; ; then++ {
				s := stopped(t, at, calls)
				c.of(s.d)
				s.d.Stop(then)
				b, e := base.Open(s.d, scenePages)
				if e == api.OK {
					break
				}
				if b != nil || e != api.ErrCrash {
					t.Fatalf("at %d, %v, opening that stands still at %d: %v and %d", at, c, then, b != nil, e)
				}
				within++
				again := copied(t, s.d)
				for _, k := range []crash{{nil, -1, 0}, {[]bool{true}, 2, 7}, {[]bool{false, true, true}, then % 5, then}} {
					what := fmt.Sprintf("at %d, %v, then at %d, %v", at, c, then, k)
					k.of(s.d)
					either(t, what, s.d, scenePages, s.ahead, s.behind)
					s = stopped(t, at, calls)
					c.of(s.d)
					s.d.Stop(then)
					base.Open(s.d, scenePages)
				}
				// It may go on without a crash, too.
				either(t, "going on", again, scenePages, s.ahead, s.behind)
			}
		}
	}
	if within < 100 {
		t.Error("openings that show too little:", within)
	}
}

// TestBehindErrCrash: the transaction is over, and the base begins no other one, whatever comes.
func TestBehindErrCrash(t *testing.T) {
	calls := sceneCalls(t)
	for at := range calls {
		s := stopped(t, at, calls)
		what := fmt.Sprint("at ", at)
		wantNoBegin(t, what, s.b, api.ErrState)
		wantNothing(t, what, s.x, api.ErrState)
		wantNoBegin(t, what, s.b, api.ErrState)
		s.d.Crash(nil, -1, 0)
		wantNoBegin(t, what+", behind the crash", s.b, api.ErrState)
		wantNothing(t, what+", behind the crash", s.x, api.ErrState)
		b := opened(t, s.d, scenePages)
		x := begun(t, b)
		mustMake(t, x, "on")
		want(t, what+": a commit of the next base", x.Commit(), api.OK)
		wantNoBegin(t, what+", behind another commit", s.b, api.ErrState)
	}
}

// TestCrashAheadOfACommit: of what wasn't committed nothing is there.
func TestCrashAheadOfACommit(t *testing.T) {
	for _, keep := range [][]bool{nil, {true}} {
		s := newScene(t)
		s.d.Crash(keep, 0, 9)
		wantPlain(t, "not committed", begun(t, opened(t, s.d, scenePages)), s.ahead)
		want(t, "abort", s.x.Abort(), api.OK)
		wantPlain(t, "aborted", begun(t, opened(t, s.d, scenePages)), s.ahead)
		wantPlain(t, "the next one", begun(t, s.b), s.ahead)
	}
}

// TestFirstCommitThatCrashes: a new device has nothing, or what the first transaction did.
func TestFirstCommitThatCrashes(t *testing.T) {
	for at := range 8*2 + 8 {
		for _, c := range kinds(9, 1, 22, 26) {
			d, b, x := start(t, 3)
			mustMake(t, x, "t")
			mustPut(t, x, "t", "a", "1")
			d.Stop(at)
			e := x.Commit()
			if (e == api.OK) != (at >= 8*2+7) || e != api.OK && e != api.ErrCrash {
				t.Fatalf("at %d: %d", at, e)
			}
			c.of(d)
			if !either(t, fmt.Sprintf("at %d, %v", at, c), d, 3, plain{}, plain{"t": {"a": "1"}}) && e == api.OK {
				t.Fatalf("at %d, %v: a commit that ended well is gone", at, c)
			}
			if e == api.ErrCrash {
				wantNoBegin(t, "behind it", b, api.ErrState)
			}
		}
	}
}

// reopened opens a base behind a crash, over and over, with drawn crashes within the openings.
func (d *draws) reopened(t testing.TB, v *device.Device, pages int) *base.Base {
	t.Helper()
	d.crash().of(v)
	for range d.below(4) {
		v.Stop(d.below(60))
		if _, e := base.Open(v, pages); e != api.OK && e != api.ErrCrash {
			t.Fatalf("open: %d", e)
		}
		d.crash().of(v)
	}
	return opened(t, v, pages)
}

// change does drawn steps in a transaction and in plain tables, and holds them against each other behind each.
func (d *draws) change(t testing.TB, what string, x *base.Tx, now plain) {
	t.Helper()
	names := []string{"a", "b", "c_", "dddddddd"}
	for range d.below(12) {
		name, key := names[d.below(4)], fmt.Sprint(d.below(40), strings.Repeat("k", d.below(2)*30))
		pairs, there := now[name]
		_, had := pairs[key]
		e := api.OK
		switch n := d.below(10); {
		case !there:
			want(t, what, x.Make(name), api.OK)
			now[name] = map[string]string{}
		case n == 0:
			want(t, what, x.Kill(name), api.OK)
			delete(now, name)
		case n < 4:
			wantDelete(t, what, x, name, key, had, api.OK)
			delete(pairs, key)
		default:
			value := strings.Repeat("v", d.below(41))
			if e = x.Put(name, key, value); e == api.OK {
				pairs[key] = value
			}
		}
		if e != api.OK && e != api.ErrFull {
			t.Fatalf("%s: %d", what, e)
		}
		wantPlain(t, what, x, now)
	}
}

// TestDrawnRowsOfCommitsAndCrashes: rows of transactions on one device, of which some are committed, some crash, and some are left.
func TestDrawnRowsOfCommitsAndCrashes(t *testing.T) {
	crashed, well := 0, 0
	for seed := range 120 {
		d := draws(seed)
		pages := []int{2, 4, 10, 40, api.Pages}[seed%5]
		v := device.New(undo.Need(pages))
		b, last := opened(t, v, pages), plain{}
		for round := range 30 {
			what := fmt.Sprintf("row %d, round %d", seed, round)
			x, now := begun(t, b), last.clone()
			wantPlain(t, what, x, last)
			d.change(t, what, x, now)
			v.Stop([]int{-1, d.below(20), d.below(150)}[d.below(3)])
			if d.below(6) == 0 {
				b = d.reopened(t, v, pages)
				continue
			}
			switch e := x.Commit(); e {
			case api.OK:
				well++
				last = now
				v.Stop(-1)
				if d.below(3) == 0 {
					b = d.reopened(t, v, pages)
				}
			case api.ErrLong:
				want(t, what, x.Abort(), api.OK)
				v.Stop(-1)
			case api.ErrCrash:
				crashed++
				wantNoBegin(t, what, b, api.ErrState)
				b = d.reopened(t, v, pages)
				if either(t, what, v, pages, last, now) {
					last = now
				}
			default:
				t.Fatalf("%s: commit: %d", what, e)
			}
		}
	}
	if crashed < 300 || well < 300 {
		t.Error("rows that show too little:", crashed, well)
	}
}
