package cache_test

import (
	"fmt"
	"math"
	"slices"
	"strings"
	"testing"

	"factotum/api"
	"factotum/cache"
	"factotum/device"
	"factotum/pager"
	"factotum/undo"
)

// page is a page whose four sectors are unlike, and unlike those of another name's.
func page(name string) string {
	s := ""
	for j := range 4 {
		s += (fmt.Sprint(name, " ", j, " ") + strings.Repeat(name, 64))[:64]
	}
	return s
}

// change is a change of a page to the name's.
func change(n int, name string) pager.Change { return pager.Change{Page: n, Data: page(name)} }

// first is what a page of a filled pager is called.
func first(n int) string { return fmt.Sprint("first ", n) }

// filled is a pager with so many pages, each of them its first, and its device.
func filled(t *testing.T, pages int) (*pager.Pager, *device.Device) {
	t.Helper()
	d := device.New(undo.Need(pages))
	p, e := pager.Open(d, pages)
	if e != api.OK {
		t.Fatalf("Open of %d pages: %d", pages, e)
	}
	var l []pager.Change
	for n := range pages {
		l = append(l, change(n, first(n)))
	}
	for some := range slices.Chunk(l, api.Changes) {
		if e := p.Commit(some); e != api.OK {
			t.Fatalf("Commit of %d pages: %d", len(some), e)
		}
	}
	return p, d
}

// state is what a cache tells of itself.
type state struct {
	kept         []int
	hits, misses int
}

func stateOf(c *cache.Cache) state { return state{c.Kept(), c.Hits(), c.Misses()} }

func (s state) same(o state) bool {
	return slices.Equal(s.kept, o.kept) && s.hits == o.hits && s.misses == o.misses
}

// wantState says that a cache doesn't tell this of itself.
func wantState(t *testing.T, what string, c *cache.Cache, want state) {
	t.Helper()
	if got := stateOf(c); !got.same(want) {
		t.Errorf("%s: kept, hits, misses %v, not %v", what, got, want)
	}
}

// wantPage says that a page isn't read so.
func wantPage(t *testing.T, what string, c *cache.Cache, n int, want string) {
	t.Helper()
	if s, e := c.Read(n); s != want || e != api.OK {
		t.Errorf("%s: page %d is %.12q and %d, not %.12q and 0", what, n, s, e, want)
	}
}

// wantErr says that a call didn't answer what it should.
func wantErr(t *testing.T, what string, got, want api.Errno) {
	t.Helper()
	if got != want {
		t.Errorf("%s: %d, not %d", what, got, want)
	}
}

// readAll reads pages one behind the other.
func readAll(c *cache.Cache, pages ...int) {
	for _, n := range pages {
		c.Read(n)
	}
}

// upTo is the numbers from a on, up to b, backwards if b is less.
func upTo(a, b int) []int {
	l := []int{a}
	for a != b {
		if a < b {
			a++
		} else {
			a--
		}
		l = append(l, a)
	}
	return l
}

func TestExample(t *testing.T) {
	p, _ := filled(t, 4)
	c := cache.New(p, 2)
	readAll(c, 1, 2, 1, 3, 1)
	wantState(t, "1, 2, 1, 3, 1", c, state{[]int{1, 3}, 2, 3})
}

func TestNewOfNoPager(t *testing.T) {
	for _, size := range []int{math.MinInt, -1, 0, 1, 64, 65, math.MaxInt} {
		if c := cache.New(nil, size); c != nil {
			t.Errorf("New of no pager, of size %d: a cache", size)
		}
	}
}

func TestNew(t *testing.T) {
	p, _ := filled(t, 70)
	for _, x := range []struct{ size, keeps int }{
		{math.MinInt, 0}, {-1, 0}, {0, 0}, {1, 1}, {2, 2}, {63, 63}, {64, 64}, {65, 64}, {math.MaxInt, 64},
	} {
		c := cache.New(p, x.size)
		if c == nil {
			t.Fatalf("New of size %d: none", x.size)
		}
		wantState(t, fmt.Sprint("new, of size ", x.size), c, state{nil, 0, 0})
		for n := range 70 {
			wantPage(t, fmt.Sprint("of size ", x.size), c, n, page(first(n)))
			if len(c.Kept()) != min(n+1, x.keeps) {
				t.Fatalf("of size %d, behind %d reads: %d are kept", x.size, n+1, len(c.Kept()))
			}
		}
		want := state{upTo(69, 0)[:x.keeps], 0, 70}
		wantState(t, fmt.Sprint("all read, of size ", x.size), c, want)
	}
}

func TestPages(t *testing.T) {
	for _, pages := range []int{1, 2, 31, 32, 160} {
		p, _ := filled(t, pages)
		c := cache.New(p, 3)
		if c.Pages() != pages {
			t.Errorf("%d pages, not %d", c.Pages(), pages)
		}
		for _, n := range []int{0, pages / 2, pages - 1} {
			wantPage(t, fmt.Sprint("of ", pages, " pages"), c, n, page(first(n)))
		}
		before := stateOf(c)
		s, e := c.Read(pages)
		if s != "" || e != api.ErrIndex {
			t.Errorf("page %d of %d: %.12q and %d", pages, pages, s, e)
		}
		wantState(t, fmt.Sprint("page ", pages, " of as many"), c, before)
	}
}

// readings is reads of a cache of a size, each with what is told of the cache behind it.
type readings struct {
	size  int
	reads []reading
}

type reading struct {
	n int
	state
}

func TestReads(t *testing.T) {
	p, _ := filled(t, 6)
	for _, x := range []readings{
		{0, []reading{
			{1, state{nil, 0, 1}}, {1, state{nil, 0, 2}}, {6, state{nil, 0, 2}}, {0, state{nil, 0, 3}},
		}},
		{1, []reading{
			{1, state{[]int{1}, 0, 1}}, {1, state{[]int{1}, 1, 1}}, {2, state{[]int{2}, 1, 2}}, {1, state{[]int{1}, 1, 3}}, {1, state{[]int{1}, 2, 3}},
		}},
		{2, []reading{
			{1, state{[]int{1}, 0, 1}}, {2, state{[]int{2, 1}, 0, 2}}, {1, state{[]int{1, 2}, 1, 2}}, {3, state{[]int{3, 1}, 1, 3}},
			{1, state{[]int{1, 3}, 2, 3}}, {1, state{[]int{1, 3}, 3, 3}}, {2, state{[]int{2, 1}, 3, 4}}, {3, state{[]int{3, 2}, 3, 5}},
		}},
		{4, []reading{
			{0, state{[]int{0}, 0, 1}}, {5, state{[]int{5, 0}, 0, 2}}, {2, state{[]int{2, 5, 0}, 0, 3}}, {3, state{[]int{3, 2, 5, 0}, 0, 4}},
			{2, state{[]int{2, 3, 5, 0}, 1, 4}}, {5, state{[]int{5, 2, 3, 0}, 2, 4}}, {0, state{[]int{0, 5, 2, 3}, 3, 4}},
			{-1, state{[]int{0, 5, 2, 3}, 3, 4}}, {6, state{[]int{0, 5, 2, 3}, 3, 4}}, {4, state{[]int{4, 0, 5, 2}, 3, 5}}, {3, state{[]int{3, 4, 0, 5}, 3, 6}},
		}},
	} {
		c := cache.New(p, x.size)
		for i, r := range x.reads {
			what := fmt.Sprint("size ", x.size, ", read ", i, ", of page ", r.n)
			if r.n >= 0 && r.n < 6 {
				wantPage(t, what, c, r.n, page(first(r.n)))
			} else {
				c.Read(r.n)
			}
			wantState(t, what, c, r.state)
		}
	}
}

func TestReadsOfSize64(t *testing.T) {
	p, _ := filled(t, 66)
	c := cache.New(p, 64)
	readAll(c, upTo(0, 63)...)
	wantState(t, "0 to 63", c, state{upTo(63, 0), 0, 64})
	wantPage(t, "the one read first", c, 0, page(first(0)))
	wantState(t, "0 again", c, state{append([]int{0}, upTo(63, 1)...), 1, 64})
	wantPage(t, "a new one", c, 64, page(first(64)))
	wantState(t, "64", c, state{append([]int{64, 0}, upTo(63, 2)...), 1, 65})
	wantPage(t, "one that went", c, 1, page(first(1)))
	wantState(t, "1 again", c, state{append([]int{1, 64, 0}, upTo(63, 3)...), 1, 66})
	wantPage(t, "one in the middle", c, 40, page(first(40)))
	wantState(t, "40 again", c, state{slices.Concat([]int{40, 1, 64, 0}, upTo(63, 41), upTo(39, 3)), 2, 66})
}

func TestReadOfNoPage(t *testing.T) {
	p, _ := filled(t, 5)
	for _, size := range []int{0, 1, 2, 64} {
		c := cache.New(p, size)
		readAll(c, 1, 2, 3, 2)
		before := stateOf(c)
		for _, n := range []int{math.MinInt, -2, -1, 5, 6, 160, 1 << 32, math.MaxInt} {
			if s, e := c.Read(n); s != "" || e != api.ErrIndex {
				t.Errorf("size %d, page %d: %.12q and %d", size, n, s, e)
			}
			wantState(t, fmt.Sprint("size ", size, ", page ", n), c, before)
		}
	}
}

func TestKeptIsNewMemory(t *testing.T) {
	p, _ := filled(t, 5)
	c := cache.New(p, 3)
	readAll(c, 1, 2, 3)
	l := c.Kept()
	for i := range l {
		l[i] = 4
	}
	_ = append(l, 4)
	wantState(t, "a list that was changed", c, state{[]int{3, 2, 1}, 0, 3})
	wantPage(t, "a list that was changed", c, 3, page(first(3)))
	wantState(t, "and a read", c, state{[]int{3, 2, 1}, 1, 3})
}

func TestCommitOfKeptAndOthers(t *testing.T) {
	p, _ := filled(t, 8)
	c := cache.New(p, 3)
	readAll(c, 1, 2, 3)
	l := []pager.Change{change(1, "new 1"), change(6, "new 6"), change(3, "new 3"), change(0, "new 0")}
	handed := slices.Clone(l)
	commits := p.Commits()
	wantErr(t, "Commit", c.Commit(l), api.OK)
	if p.Commits() != commits+1 {
		t.Errorf("%d commits of the pager's, not %d", p.Commits(), commits+1)
	}
	wantState(t, "behind it", c, state{[]int{3, 2, 1}, 0, 3})
	if !slices.Equal(l, handed) {
		t.Error("the changes were changed")
	}
	l[0], l[2] = change(1, "later 1"), change(3, "later 3")
	wantPage(t, "kept, and changed", c, 1, page("new 1"))
	wantPage(t, "kept, and changed", c, 3, page("new 3"))
	wantPage(t, "kept, and not changed", c, 2, page(first(2)))
	wantState(t, "three hits", c, state{[]int{2, 3, 1}, 3, 3})
	wantPage(t, "changed alone", c, 6, page("new 6"))
	wantPage(t, "changed alone", c, 0, page("new 0"))
	wantPage(t, "neither", c, 7, page(first(7)))
	wantState(t, "three misses", c, state{[]int{7, 0, 6}, 3, 6})
	wantPage(t, "changed, and gone", c, 1, page("new 1"))
	for n, name := range []string{"new 0", "new 1", first(2), "new 3", first(4), first(5), "new 6", first(7)} {
		if s, e := p.Read(n); s != page(name) || e != api.OK {
			t.Errorf("the pager's page %d: %.12q and %d", n, s, e)
		}
	}
}

func TestCommitUsesNothing(t *testing.T) {
	p, _ := filled(t, 8)
	c := cache.New(p, 3)
	readAll(c, 1, 2, 3)
	for i, n := range []int{1, 1, 2, 5, 1} {
		wantErr(t, "Commit", c.Commit([]pager.Change{change(n, fmt.Sprint("new ", i))}), api.OK)
		wantState(t, fmt.Sprint("commit ", i), c, state{[]int{3, 2, 1}, 0, 3})
	}
	c.Read(4)
	wantState(t, "the one whose use was longest ago goes", c, state{[]int{4, 3, 2}, 0, 4})
	wantPage(t, "it", c, 1, page("new 4"))
}

func TestCommitOfNone(t *testing.T) {
	p, _ := filled(t, 4)
	c := cache.New(p, 2)
	readAll(c, 1, 2)
	for _, l := range [][]pager.Change{nil, {}} {
		commits := p.Commits()
		wantErr(t, "Commit of no change", c.Commit(l), api.OK)
		if p.Commits() != commits {
			t.Error("a commit of no change was counted")
		}
		wantState(t, "Commit of no change", c, state{[]int{2, 1}, 0, 2})
	}
}

func TestCommitOfAllThatMayBe(t *testing.T) {
	p, _ := filled(t, 40)
	for _, size := range []int{0, 1, 2, 31, 64} {
		c := cache.New(p, size)
		readAll(c, upTo(39, 0)...)
		before := stateOf(c)
		var l []pager.Change
		for n := range api.Changes {
			l = append(l, change(n+5, fmt.Sprint("size ", size, " of ", n)))
		}
		wantErr(t, "Commit of 31", c.Commit(l), api.OK)
		wantState(t, fmt.Sprint("size ", size), c, before)
		for _, x := range l {
			wantPage(t, fmt.Sprint("size ", size), c, x.Page, x.Data)
		}
	}
}

// refusals is changes that a pager of 40 pages refuses, each with its error, in the order in which they are named.
func refusals() []struct {
	name string
	l    []pager.Change
	want api.Errno
} {
	var long []pager.Change
	for n := range api.Changes + 1 {
		long = append(long, change(n, "x"))
	}
	wrong := slices.Clone(long)
	wrong[3].Page, wrong[4].Data = -1, ""
	return []struct {
		name string
		l    []pager.Change
		want api.Errno
	}{
		{"32 changes", long, api.ErrLong},
		{"32 changes, with all that may not be", wrong, api.ErrLong},
		{"page -1", []pager.Change{change(1, "x"), change(-1, "x")}, api.ErrIndex},
		{"page 40", []pager.Change{change(1, "x"), change(40, "x")}, api.ErrIndex},
		{"a page that isn't there, and one of 0 bytes", []pager.Change{{Page: 1}, change(40, "x")}, api.ErrIndex},
		{"a page of 0 bytes", []pager.Change{change(1, "x"), {Page: 2}}, api.ErrArg},
		{"a page of 255 bytes", []pager.Change{{Page: 1, Data: page("x")[1:]}}, api.ErrArg},
		{"a page of 257 bytes", []pager.Change{{Page: 1, Data: page("x") + "x"}}, api.ErrArg},
		{"a page twice", []pager.Change{change(1, "x"), change(2, "x"), change(1, "y")}, api.ErrArg},
	}
}

func TestCommitThatIsRefused(t *testing.T) {
	p, d := filled(t, 40)
	for _, size := range []int{0, 1, 2, 64} {
		c := cache.New(p, size)
		readAll(c, 3, 2, 1)
		before, calls := stateOf(c), d.Calls()
		for _, x := range refusals() {
			wantErr(t, x.name, c.Commit(x.l), x.want)
			wantState(t, x.name, c, before)
		}
		if d.Calls() != calls {
			t.Error("a refused commit called the device")
		}
		for n := range 40 {
			wantPage(t, "behind refused commits", c, n, page(first(n)))
		}
		wantErr(t, "one that may be", c.Commit([]pager.Change{change(39, first(39))}), api.OK)
	}
}

// TestCommitThatCrashes stands still at each call of a commit: all is read as ahead of it, and no commit is made any more.
func TestCommitThatCrashes(t *testing.T) {
	l := []pager.Change{change(1, "new 1"), change(2, "new 2"), change(4, "new 4")}
	for _, size := range []int{0, 1, 2, 64} {
		for at := range 8*len(l) + 7 {
			what := fmt.Sprint("size ", size, ", call ", at)
			p, d := filled(t, 5)
			c := cache.New(p, size)
			readAll(c, 1, 2, 3)
			before := stateOf(c)
			d.Stop(at)
			wantErr(t, what, c.Commit(l), api.ErrCrash)
			wantState(t, what, c, before)
			wantErr(t, what+", again", c.Commit(l), api.ErrState)
			wantErr(t, what+", too many", c.Commit(make([]pager.Change, 32)), api.ErrState)
			wantState(t, what+", again", c, before)
			d.Crash([]bool{true, false, true}, 1, 7)
			wantErr(t, what+", behind the crash", c.Commit(l), api.ErrState)
			for n := range 5 {
				wantPage(t, what, c, n, page(first(n)))
			}
			for n := range 5 {
				wantPage(t, what, c, n, page(first(n)))
			}
		}
	}
}

// TestCommitsOfOthers: a pager may be another cache's too, and may commit by itself; what is read is what it tells.
func TestCommitsOfOthers(t *testing.T) {
	p, _ := filled(t, 6)
	c, other := cache.New(p, 3), cache.New(p, 2)
	readAll(c, 1, 2, 3)
	readAll(other, 3, 1)
	wantErr(t, "the pager's", p.Commit([]pager.Change{change(1, "a 1"), change(4, "a 4")}), api.OK)
	wantPage(t, "behind the pager's", c, 1, page("a 1"))
	wantPage(t, "behind the pager's", c, 2, page(first(2)))
	wantState(t, "behind the pager's", c, state{[]int{2, 1, 3}, 2, 3})
	wantErr(t, "the other's", other.Commit([]pager.Change{change(3, "b 3"), change(2, "b 2")}), api.OK)
	wantErr(t, "its own", c.Commit([]pager.Change{change(2, "c 2")}), api.OK)
	wantState(t, "behind its own", c, state{[]int{2, 1, 3}, 2, 3})
	wantPage(t, "the other's and its own", c, 3, page("b 3"))
	wantPage(t, "its own", c, 2, page("c 2"))
	wantErr(t, "the pager's", p.Commit([]pager.Change{change(3, "d 3")}), api.OK)
	wantErr(t, "its own, of no change", c.Commit(nil), api.OK)
	wantPage(t, "the pager's, and one of no change", c, 3, page("d 3"))
	wantErr(t, "the pager's", p.Commit([]pager.Change{change(3, "e 3"), change(1, "e 1")}), api.OK)
	wantPage(t, "a miss ahead of hits", c, 5, page(first(5)))
	wantState(t, "a miss ahead of hits", c, state{[]int{5, 3, 2}, 5, 4})
	wantPage(t, "hits behind a miss", c, 3, page("e 3"))
	wantErr(t, "one that is refused", c.Commit([]pager.Change{change(6, "x")}), api.ErrIndex)
	wantPage(t, "the other", other, 1, page("e 1"))
	wantPage(t, "the other", other, 3, page("e 3"))
	wantState(t, "the other", other, state{[]int{3, 1}, 2, 2})
}

func TestNil(t *testing.T) {
	for name, c := range map[string]*cache.Cache{"nil": nil, "one that nobody made": {}} {
		for _, n := range []int{math.MinInt, -1, 0, 1, math.MaxInt} {
			if s, e := c.Read(n); s != "" || e != api.ErrArg {
				t.Errorf("%s: page %d: %.12q and %d", name, n, s, e)
			}
		}
		for _, l := range [][]pager.Change{nil, {}, {change(0, "x")}, {change(-1, "x")}, {{}}, make([]pager.Change, 32)} {
			wantErr(t, name+": Commit", c.Commit(l), api.ErrArg)
		}
		wantState(t, name, c, state{nil, 0, 0})
		if c.Pages() != 0 {
			t.Errorf("%s: %d pages", name, c.Pages())
		}
	}
}

func TestPagerWithoutPages(t *testing.T) {
	c := cache.New(&pager.Pager{}, 2)
	if s, e := c.Read(0); s != "" || e != api.ErrIndex {
		t.Errorf("page 0: %.12q and %d", s, e)
	}
	wantErr(t, "Commit", c.Commit([]pager.Change{change(0, "x")}), api.ErrIndex)
	wantState(t, "a pager that nobody opened", c, state{nil, 0, 0})
	if c.Pages() != 0 {
		t.Errorf("%d pages", c.Pages())
	}
}
