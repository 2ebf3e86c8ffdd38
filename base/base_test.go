package base_test

import (
	"fmt"
	"math"
	"slices"
	"strings"
	"testing"

	"factotum/api"
	"factotum/base"
	"factotum/device"
	"factotum/pager"
	"factotum/undo"
)

// noughts is a sector of a new device.
var noughts = strings.Repeat("\x00", api.Sector)

// fresh is a new device for so many pages.
func fresh(pages int) *device.Device { return device.New(undo.Need(pages)) }

func opened(t testing.TB, d *device.Device, pages int) *base.Base {
	t.Helper()
	b, e := base.Open(d, pages)
	if b == nil || e != api.OK {
		t.Fatalf("open: %v and %d", b != nil, e)
	}
	return b
}

func begun(t testing.TB, b *base.Base) *base.Tx {
	t.Helper()
	x, e := b.Begin()
	if x == nil || e != api.OK {
		t.Fatalf("begin: %v and %d", x != nil, e)
	}
	return x
}

// start is the first transaction on a new device.
func start(t testing.TB, pages int) (*device.Device, *base.Base, *base.Tx) {
	t.Helper()
	d := fresh(pages)
	b := opened(t, d, pages)
	return d, b, begun(t, b)
}

func want(t testing.TB, what string, got, e api.Errno) {
	t.Helper()
	if got != e {
		t.Errorf("%s: %d, not %d", what, got, e)
	}
}

// mustPut puts pairs into a table: keys with their values.
func mustPut(t testing.TB, x *base.Tx, name string, pairs ...string) {
	t.Helper()
	for i := 0; i < len(pairs); i += 2 {
		if e := x.Put(name, pairs[i], pairs[i+1]); e != api.OK {
			t.Fatalf("put %q into %s: %d", pairs[i], name, e)
		}
	}
}

func mustMake(t testing.TB, x *base.Tx, names ...string) {
	t.Helper()
	for _, name := range names {
		if e := x.Make(name); e != api.OK {
			t.Fatalf("make %q: %d", name, e)
		}
	}
}

func wantNames(t testing.TB, what string, x *base.Tx, names ...string) {
	t.Helper()
	if l := x.Names(); !slices.Equal(l, names) {
		t.Errorf("%s: the names are %q, not %q", what, l, names)
	}
}

func wantCount(t testing.TB, what string, x *base.Tx, name string, n int, e api.Errno) {
	t.Helper()
	if m, err := x.Count(name); m != n || err != e {
		t.Errorf("%s: count of %q: %d and %d, not %d and %d", what, name, m, err, n, e)
	}
}

func wantGet(t testing.TB, what string, x *base.Tx, name, key, value string, there bool, e api.Errno) {
	t.Helper()
	if v, ok, err := x.Get(name, key); v != value || ok != there || err != e {
		t.Errorf("%s: get %q of %q: %q, %v and %d, not %q, %v and %d", what, key, name, v, ok, err, value, there, e)
	}
}

func wantDelete(t testing.TB, what string, x *base.Tx, name, key string, there bool, e api.Errno) {
	t.Helper()
	if ok, err := x.Delete(name, key); ok != there || err != e {
		t.Errorf("%s: delete %q of %q: %v and %d, not %v and %d", what, key, name, ok, err, there, e)
	}
}

func wantScan(t testing.TB, what string, x *base.Tx, name, from, to string, pairs []api.Pair, e api.Errno) {
	t.Helper()
	if l, err := x.Scan(name, from, to); !slices.Equal(l, pairs) || err != e {
		t.Errorf("%s: scan %q to %q of %q: %q and %d, not %q and %d", what, from, to, name, l, err, pairs, e)
	}
}

func wantSave(t testing.TB, what string, x *base.Tx, k int) {
	t.Helper()
	if n := x.Save(); n != k {
		t.Errorf("%s: save is %d, not %d", what, n, k)
	}
}

// wantNoBegin asks a base for a transaction that it may not begin.
func wantNoBegin(t testing.TB, what string, b *base.Base, e api.Errno) {
	t.Helper()
	if x, err := b.Begin(); x != nil || err != e {
		t.Errorf("%s: begin: %v and %d, not %d", what, x != nil, err, e)
	}
}

// wantNothing asks each call of a transaction of which nothing can be asked.
func wantNothing(t testing.TB, what string, x *base.Tx, e api.Errno) {
	t.Helper()
	for _, name := range []string{"t", "u"} {
		want(t, what+": make", x.Make(name), e)
		want(t, what+": kill", x.Kill(name), e)
		wantCount(t, what, x, name, 0, e)
		wantGet(t, what, x, name, "a", "", false, e)
		want(t, what+": put", x.Put(name, "a", "1"), e)
		wantDelete(t, what, x, name, "a", false, e)
		wantScan(t, what, x, name, "", "", nil, e)
	}
	wantNames(t, what, x)
	wantSave(t, what, x, 0)
	for _, k := range []int{0, -1, 1} {
		want(t, what+": back", x.Back(k), e)
	}
	if x.Sound() {
		t.Error(what, ": it is sound")
	}
	wantSave(t, what, x, 0)
	want(t, what+": commit", x.Commit(), e)
	want(t, what+": abort", x.Abort(), e)
	want(t, what+": commit again", x.Commit(), e)
}

// seen is all that a transaction tells of its tables.
func seen(x *base.Tx) string {
	var b strings.Builder
	for _, name := range x.Names() {
		n, e := x.Count(name)
		l, f := x.Scan(name, "", "")
		fmt.Fprintf(&b, "%s: %d %d, %q %d\n", name, n, e, l, f)
	}
	fmt.Fprintln(&b, x.Sound())
	return b.String()
}

// pageOf is a page of a device, as a pager reads it that is opened on another one with the same sectors.
func pageOf(t testing.TB, d *device.Device, pages, n int) string {
	t.Helper()
	p, e := pager.Open(copied(t, d), pages)
	if e != api.OK {
		t.Fatal("open of a pager:", e)
	}
	s, e := p.Read(n)
	if e != api.OK {
		t.Fatal("read:", e)
	}
	return s
}

// copied is another device with the same sectors, all of them sure.
func copied(t testing.TB, d *device.Device) *device.Device {
	t.Helper()
	c := device.New(d.Size())
	for i := range d.Size() {
		s := d.Read(i)
		if s == noughts {
			continue
		}
		if e := c.Write(i, s); e != api.OK {
			t.Fatal("write:", e)
		}
	}
	c.Sync()
	return c
}

func TestExample(t *testing.T) {
	for _, keep := range [][]bool{nil, {true}, {false, true}} {
		d, _, x := start(t, 4)
		mustMake(t, x, "t")
		mustPut(t, x, "t", "a", "1")
		want(t, "commit", x.Commit(), api.OK)
		d.Crash(keep, 0, 3)
		x = begun(t, opened(t, d, 4))
		wantNames(t, "behind the crash", x, "t")
		wantGet(t, "behind the crash", x, "t", "a", "1", true, api.OK)
		wantCount(t, "behind the crash", x, "t", 1, api.OK)
	}
}

// TestPagesThatOpenRefuses: layer 6's Open's errors, and nothing beside them.
func TestPagesThatOpenRefuses(t *testing.T) {
	refused := func(what string, d *device.Device, pages int, e api.Errno) {
		t.Helper()
		if b, err := base.Open(d, pages); b != nil || err != e {
			t.Errorf("open of %s with %d pages: %v and %d, not %d", what, pages, b != nil, err, e)
		}
	}
	for _, pages := range []int{math.MinInt, -1, 0, api.Pages + 1, 1 << 40, math.MaxInt} {
		refused("a great device", device.New(4096), pages, api.ErrArg)
	}
	for _, pages := range []int{math.MinInt, 0, 1, 160, math.MaxInt} {
		refused("no device", nil, pages, api.ErrArg)
		refused("a device without sectors", device.New(0), pages, api.ErrArg)
	}
	for _, pages := range []int{1, 2, 60, api.Pages} {
		refused("a device with a sector too few", device.New(undo.Need(pages)-1), pages, api.ErrArg)
		b := opened(t, fresh(pages), pages)
		wantNames(t, "new", begun(t, b))
	}
	opened(t, device.New(4096), 3)

	// A journal that is none, and one that the device doesn't let go back.
	d := fresh(3)
	d.Write(0, undo.Mark(true))
	d.Write(1, "\x01\x00\x07")
	refused("a journal of a page that isn't there", d, 3, api.ErrCorrupt)
	d.Write(1, "\x01\x00\x01")
	d.Stop(0)
	refused("a device that stands still", d, 3, api.ErrCrash)
	d.Stop(-1)
	opened(t, d, 3)
}

func TestNames(t *testing.T) {
	_, _, x := start(t, 4)
	var may []string
	for c := 'a'; c <= 'z'; c++ {
		may = append(may, string(c), "x"+string(c), strings.Repeat(string(c), 8))
	}
	may = append(may, "_", "__", "________", "a_", "_a", "abcdefgh")
	for _, name := range may {
		want(t, name, x.Make(name), api.OK)
		wantCount(t, name, x, name, 0, api.OK)
		want(t, name, x.Put(name, "k", name), api.OK)
		wantGet(t, name, x, name, "k", name, true, api.OK)
		wantNames(t, name, x, name)
		want(t, name, x.Kill(name), api.OK)
	}
	mayNot := []string{
		"", "aaaaaaaaa", "_________", "abcdefghi", strings.Repeat("a", 255), strings.Repeat("a", 256), strings.Repeat("a", 264),
		"é", "aé", "éa", "ß", "а", "ａ", "ª", "日", "aaaaaaaé", "\xff", "a\xff", "\xc3", "\xe6\x97", "a\x80", "\ufffd", "\U0001d41a", "a\x00", "\x00a", " a", "a ", "A", "aA", "a1", "a-b", "a.b",
	}
	for c := range 256 {
		s := string([]byte{byte(c)})
		if c == '_' || c >= 'a' && c <= 'z' {
			continue
		}
		mayNot = append(mayNot, s, "a"+s, s+"a", "abcdefg"+s)
	}
	mustMake(t, x, "a", "_")
	was := seen(x)
	for _, name := range mayNot {
		what := fmt.Sprintf("%q", name)
		want(t, "make "+what, x.Make(name), api.ErrArg)
		want(t, "kill "+what, x.Kill(name), api.ErrArg)
		wantNoTable(t, what, x, name)
	}
	if seen(x) != was {
		t.Error("names that may not be have changed something")
	}
}

// wantNoTable asks all calls that look into a table for one that isn't there: whatever the key and the value are.
func wantNoTable(t testing.TB, what string, x *base.Tx, name string) {
	t.Helper()
	wantCount(t, what, x, name, 0, api.ErrIndex)
	for _, key := range []string{"a", "", strings.Repeat("k", 33)} {
		wantGet(t, what, x, name, key, "", false, api.ErrIndex)
		want(t, what+": put", x.Put(name, key, "1"), api.ErrIndex)
		wantDelete(t, what, x, name, key, false, api.ErrIndex)
		wantScan(t, what, x, name, key, "", nil, api.ErrIndex)
	}
	want(t, what+": put", x.Put(name, "a", strings.Repeat("v", 41)), api.ErrIndex)
}

func TestTablesThatArentThere(t *testing.T) {
	_, b, x := start(t, 8)
	mustMake(t, x, "t", "gone", "tt")
	mustPut(t, x, "t", "a", "1")
	mustPut(t, x, "gone", "a", "2")
	want(t, "kill", x.Kill("gone"), api.OK)
	for range 2 {
		was := seen(x)
		for _, name := range []string{"gone", "u", "ttt", "s", "_"} {
			wantNoTable(t, name, x, name)
			want(t, "kill "+name, x.Kill(name), api.ErrIndex)
		}
		if seen(x) != was {
			t.Error("calls of no table have changed something")
		}
		want(t, "commit", x.Commit(), api.OK)
		x = begun(t, b)
	}
}

func TestThirteenthTable(t *testing.T) {
	d, b, x := start(t, 30)
	names := []string{"_", "a", "aaaaaaaa", "ab", "abc", "b", "longname", "m", "n_", "x_y", "zzzzzzz_", "zzzzzzzz"}
	order := []int{7, 0, 11, 4, 2, 9, 1, 10, 3, 8, 5, 6}
	for _, i := range order {
		mustMake(t, x, names[i])
		mustPut(t, x, names[i], "k", names[i])
	}
	check := func(what string) {
		t.Helper()
		wantNames(t, what, x, names...)
		want(t, what+": a thirteenth", x.Make("c"), api.ErrLong)
		want(t, what+": one that is there", x.Make("m"), api.ErrTwice)
		want(t, what+": one that may not be", x.Make("M"), api.ErrArg)
		wantNames(t, what, x, names...)
		for _, name := range names {
			wantGet(t, what, x, name, "k", name, true, api.OK)
			wantCount(t, what, x, name, 1, api.OK)
		}
		if !x.Sound() {
			t.Error(what, ": not sound")
		}
	}
	check("ahead")
	want(t, "commit", x.Commit(), api.OK)
	x = begun(t, b)
	check("behind")
	x = begun(t, opened(t, d, 30))
	check("opened anew")
	want(t, "kill", x.Kill("m"), api.OK)
	want(t, "another one", x.Make("c"), api.OK)
	want(t, "a thirteenth", x.Make("m"), api.ErrLong)
	wantNames(t, "another one", x, "_", "a", "aaaaaaaa", "ab", "abc", "b", "c", "longname", "n_", "x_y", "zzzzzzz_", "zzzzzzzz")
}

func TestTwice(t *testing.T) {
	_, _, x := start(t, 8)
	mustMake(t, x, "t")
	want(t, "an empty one", x.Make("t"), api.ErrTwice)
	mustPut(t, x, "t", "a", "1")
	want(t, "one with a pair", x.Make("t"), api.ErrTwice)
	wantGet(t, "it stays", x, "t", "a", "1", true, api.OK)
}

// TestKilledAndMadeAgain: what a table had is gone, and its pages are there again.
func TestKilledAndMadeAgain(t *testing.T) {
	_, b, x := start(t, 5)
	for round := range 6 {
		what := fmt.Sprint("round ", round)
		mustMake(t, x, "t")
		wantCount(t, what, x, "t", 0, api.OK)
		wantScan(t, what, x, "t", "", "", nil, api.OK)
		n := 0
		for x.Put("t", fmt.Sprint("k", n), strings.Repeat("v", 40)) == api.OK {
			n++
		}
		if n < 6 {
			t.Error(what, ": room for", n)
		}
		wantCount(t, what, x, "t", n, api.OK)
		if round%2 == 0 {
			want(t, what+": commit", x.Commit(), api.OK)
			x = begun(t, b)
		}
		want(t, what+": kill", x.Kill("t"), api.OK)
		wantNames(t, what, x)
		want(t, what+": kill again", x.Kill("t"), api.ErrIndex)
		if !x.Sound() {
			t.Error(what, ": not sound")
		}
		if round%3 == 0 {
			want(t, what+": commit", x.Commit(), api.OK)
			x = begun(t, b)
		}
	}
}

// TestKeysAndValues: layer 10's edges, of a table without pairs and of one with some.
func TestKeysAndValues(t *testing.T) {
	for _, c := range []struct {
		key, value int
		e          api.Errno
	}{
		{0, 0, api.ErrArg}, {1, 0, api.OK}, {32, 0, api.OK}, {33, 0, api.ErrArg}, {256, 0, api.ErrArg},
		{1, 40, api.OK}, {32, 40, api.OK}, {1, 41, api.ErrArg}, {32, 256, api.ErrArg}, {0, 41, api.ErrArg},
	} {
		for _, pages := range []int{1, 4} {
			what := fmt.Sprint(c, " on ", pages)
			_, _, x := start(t, pages)
			mustMake(t, x, "t", "u")
			if pages > 1 {
				mustPut(t, x, "u", "a", "1", "b", "2")
			}
			key, value := strings.Repeat("k", c.key), strings.Repeat("v", c.value)
			was := seen(x)
			for _, name := range []string{"t", "u"} {
				e := c.e
				if e == api.OK && pages == 1 {
					e = api.ErrFull
				}
				want(t, what, x.Put(name, key, value), e)
				if e != api.OK {
					wantGet(t, what, x, name, key, "", false, api.OK)
					wantDelete(t, what, x, name, key, false, api.OK)
					if seen(x) != was {
						t.Error(what, ": something has changed")
					}
					continue
				}
				wantGet(t, what, x, name, key, value, true, api.OK)
				wantDelete(t, what, x, name, key, true, api.OK)
				wantDelete(t, what, x, name, key, false, api.OK)
			}
		}
	}
}

func TestCounts(t *testing.T) {
	_, _, x := start(t, 8)
	mustMake(t, x, "t", "u")
	mustPut(t, x, "t", "a", "1", "b", "2", "a", "3", "b", "2")
	wantCount(t, "two of them twice", x, "t", 2, api.OK)
	wantCount(t, "another one", x, "u", 0, api.OK)
	wantDelete(t, "one", x, "t", "a", true, api.OK)
	wantDelete(t, "none", x, "t", "a", false, api.OK)
	wantCount(t, "one", x, "t", 1, api.OK)
	want(t, "too long", x.Put("t", "c", strings.Repeat("v", 41)), api.ErrArg)
	wantCount(t, "one that was refused", x, "t", 1, api.OK)
	wantDelete(t, "the last", x, "t", "b", true, api.OK)
	wantCount(t, "none", x, "t", 0, api.OK)
}

func TestScan(t *testing.T) {
	_, _, x := start(t, 8)
	mustMake(t, x, "t", "u")
	mustPut(t, x, "t", "c", "3", "a", "1", "b", "2")
	mustPut(t, x, "u", "aa", "0")
	a, b, c := api.Pair{Key: "a", Value: "1"}, api.Pair{Key: "b", Value: "2"}, api.Pair{Key: "c", Value: "3"}
	for _, s := range []struct {
		from, to string
		pairs    []api.Pair
	}{
		{"", "", []api.Pair{a, b, c}}, {"a", "c", []api.Pair{a, b}}, {"b", "", []api.Pair{b, c}}, {"aa", "b", nil}, {"", "a", nil},
		{"c", "a", nil}, {"b", "b", nil}, {"\x00", "\xff", []api.Pair{a, b, c}}, {"d", "", nil},
	} {
		wantScan(t, "told", x, "t", s.from, s.to, s.pairs, api.OK)
	}
	l, _ := x.Scan("t", "", "")
	l[0], l[1] = api.Pair{}, api.Pair{}
	names := x.Names()
	names[0], names[1] = "", ""
	wantScan(t, "lists are new", x, "t", "", "", []api.Pair{a, b, c}, api.OK)
	wantNames(t, "lists are new", x, "t", "u")
}

// TestFull: where no page is left a Put is refused, and nothing has changed; room that comes back can be used.
func TestFull(t *testing.T) {
	_, _, x := start(t, 1)
	mustMake(t, x, "t")
	was := seen(x)
	want(t, "one page", x.Put("t", "a", "1"), api.ErrFull)
	if seen(x) != was {
		t.Error("one page: something has changed")
	}
	want(t, "commit", x.Commit(), api.OK)

	_, b, x := start(t, 2)
	mustMake(t, x, "t", "u")
	mustPut(t, x, "t", "a", "1")
	for range 2 {
		was = seen(x)
		want(t, "a second table", x.Put("u", "a", "1"), api.ErrFull)
		if seen(x) != was {
			t.Error("a second table: something has changed")
		}
		mustPut(t, x, "t", "b", "2")
		want(t, "commit", x.Commit(), api.OK)
		x = begun(t, b)
	}
	want(t, "kill", x.Kill("t"), api.OK)
	mustPut(t, x, "u", "a", "1")
	mustMake(t, x, "t")
	want(t, "the first one", x.Put("t", "a", "1"), api.ErrFull)
	wantDelete(t, "room", x, "u", "a", true, api.OK)
	mustPut(t, x, "t", "a", "1")

	for _, pages := range []int{3, 7, 60, api.Pages} {
		_, _, x := start(t, pages)
		mustMake(t, x, "t", "u")
		mustPut(t, x, "u", "a", "1")
		n, e := 0, api.OK
		for e == api.OK {
			was = seen(x)
			key := fmt.Sprint(n*7919%10007, strings.Repeat("k", n%27))
			if e = x.Put("t", key, strings.Repeat("v", 40)); e == api.OK {
				n++
			}
		}
		want(t, fmt.Sprint(pages, " pages, ", n, " pairs"), e, api.ErrFull)
		if seen(x) != was || !x.Sound() {
			t.Error(pages, "pages: something has changed, or isn't sound")
		}
		wantCount(t, "full", x, "t", n, api.OK)
		if n < pages {
			t.Error(pages, "pages: room for", n)
		}
	}
}

func TestNotes(t *testing.T) {
	_, b, x := start(t, 30)
	for _, k := range []int{math.MinInt, -1, 0, 1, math.MaxInt} {
		want(t, fmt.Sprint("back to ", k, ", none was noted"), x.Back(k), api.ErrIndex)
	}
	var looks []string
	note := func(k int) {
		t.Helper()
		looks = append(looks[:k], seen(x))
		wantSave(t, "note", x, k)
	}
	back := func(k int) {
		t.Helper()
		want(t, fmt.Sprint("back to ", k), x.Back(k), api.OK)
		if s := seen(x); s != looks[k] {
			t.Errorf("back to %d: %s, not %s", k, s, looks[k])
		}
	}
	note(0)
	mustMake(t, x, "t", "u")
	note(1)
	mustPut(t, x, "t", "a", "1", "b", "2")
	note(2)
	note(3)
	want(t, "kill", x.Kill("u"), api.OK)
	wantDelete(t, "a", x, "t", "a", true, api.OK)
	mustMake(t, x, "w")
	note(4)
	for i := range 40 {
		mustPut(t, x, "w", fmt.Sprint("k", i), strings.Repeat("v", i))
	}
	want(t, "kill", x.Kill("t"), api.OK)
	was := seen(x)
	for _, k := range []int{math.MinInt, -1, 5, 6, 1 << 40, math.MaxInt} {
		want(t, fmt.Sprint("back to ", k), x.Back(k), api.ErrIndex)
	}
	if seen(x) != was {
		t.Error("notes that never were have changed something")
	}
	back(4)
	back(4)
	mustPut(t, x, "w", "x", "y")
	back(4)
	back(2)
	mustPut(t, x, "t", "c", "3")
	for _, k := range []int{3, 4, 5} {
		want(t, fmt.Sprint("back to ", k, ", which is gone"), x.Back(k), api.ErrIndex)
	}
	wantGet(t, "notes that are gone", x, "t", "c", "3", true, api.OK)
	back(2)
	note(3)
	want(t, "kill", x.Kill("t"), api.OK)
	mustMake(t, x, "t")
	mustPut(t, x, "t", "z", "26")
	back(3)
	want(t, "back to 4, which is gone", x.Back(4), api.ErrIndex)
	back(1)
	mustPut(t, x, "u", "a", "1")
	back(0)
	wantNames(t, "the first note", x)
	want(t, "back to 1, which is gone", x.Back(1), api.ErrIndex)
	mustMake(t, x, "first")
	note(1)
	mustPut(t, x, "first", "a", "1")
	want(t, "commit", x.Commit(), api.OK)
	x = begun(t, b)
	want(t, "notes are a transaction's own", x.Back(0), api.ErrIndex)
	wantNames(t, "committed", x, "first")
	looks = nil
	note(0)
}

func TestManyNotes(t *testing.T) {
	_, _, x := start(t, 4)
	mustMake(t, x, "t")
	const notes = 5000
	for k := range notes {
		wantSave(t, "many", x, k)
		mustPut(t, x, "t", "a", fmt.Sprint(k))
		if k%50 == 0 && !x.Sound() {
			t.Error("not sound")
		}
	}
	for k := notes - 1; k > 0; k -= 37 {
		want(t, "back", x.Back(k), api.OK)
		wantGet(t, "back", x, "t", "a", fmt.Sprint(k-1), true, api.OK)
	}
	want(t, "back", x.Back(0), api.OK)
	wantCount(t, "back", x, "t", 0, api.OK)
}

func TestOneAtATime(t *testing.T) {
	_, b, x := start(t, 4)
	wantNoBegin(t, "there is one", b, api.ErrState)
	mustMake(t, x, "t")
	wantNoBegin(t, "there is one", b, api.ErrState)
	wantNames(t, "it goes on", x, "t")
	want(t, "commit", x.Commit(), api.OK)
	y := begun(t, b)
	wantNothing(t, "the first one", x, api.ErrState)
	wantNames(t, "the second one goes on", y, "t")
	wantNoBegin(t, "the second one", b, api.ErrState)
	want(t, "abort", y.Abort(), api.OK)
	z := begun(t, b)
	wantNothing(t, "the first one", x, api.ErrState)
	wantNothing(t, "the second one", y, api.ErrState)
	wantNoBegin(t, "the third one", b, api.ErrState)
	wantNames(t, "the third one", z, "t")
}

func TestCommitAndAbort(t *testing.T) {
	d, b, x := start(t, 20)
	mustMake(t, x, "t", "u")
	mustPut(t, x, "t", "a", "1", "b", "2")
	wantNames(t, "not committed", begun(t, opened(t, copied(t, d), 20)))
	was := seen(x)
	want(t, "commit", x.Commit(), api.OK)
	wantNothing(t, "committed", x, api.ErrState)
	x = begun(t, b)
	if seen(x) != was || seen(begun(t, opened(t, copied(t, d), 20))) != was {
		t.Error("committed:", seen(x))
	}
	mustPut(t, x, "t", "c", "3", "a", "other")
	want(t, "kill", x.Kill("u"), api.OK)
	mustMake(t, x, "w")
	wantSave(t, "a note", x, 0)
	calls := d.Calls()
	want(t, "abort", x.Abort(), api.OK)
	if d.Calls() != calls {
		t.Error("abort called the device")
	}
	wantNothing(t, "aborted", x, api.ErrState)
	x = begun(t, b)
	if seen(x) != was || seen(begun(t, opened(t, copied(t, d), 20))) != was {
		t.Error("aborted:", seen(x))
	}
	// What is as it was asks nothing of the device.
	mustPut(t, x, "t", "c", "3")
	wantDelete(t, "c", x, "t", "c", true, api.OK)
	d.Stop(0)
	want(t, "commit of nothing", x.Commit(), api.OK)
	if d.Calls() != calls {
		t.Error("a commit of nothing called the device")
	}
	if x = begun(t, b); seen(x) != was {
		t.Error("a commit of nothing:", seen(x))
	}
}

// TestHeadOfACommit: the head as the chapter tells it, and the bits of the pages that are used.
func TestHeadOfACommit(t *testing.T) {
	d, b, x := start(t, 40)
	if s := pageOf(t, d, 40, 0); s != strings.Repeat("\x00", 256) {
		t.Errorf("new: %q", s)
	}
	zeros := func(s string) string { return s + strings.Repeat("\x00", 256-len(s)) }
	mustMake(t, x, "t")
	mustPut(t, x, "t", "a", "1")
	want(t, "commit", x.Commit(), api.OK)
	bits := "\x02" + strings.Repeat("\x00", 19)
	if s := pageOf(t, d, 40, 0); s != zeros(bits+"\x01\x01t\x00\x01\x00\x01") {
		t.Errorf("one table: %q", s)
	}
	x = begun(t, b)
	mustMake(t, x, "zz", "_a", "aaaaaaaa")
	mustPut(t, x, "zz", "k", "v")
	want(t, "commit", x.Commit(), api.OK)
	bits = "\x06" + strings.Repeat("\x00", 19)
	if s := pageOf(t, d, 40, 0); s != zeros(bits+"\x04\x02_a\x00\x00\x00\x00\x08aaaaaaaa\x00\x00\x00\x00\x01t\x00\x01\x00\x01\x02zz\x00\x02\x00\x01") {
		t.Errorf("four tables: %q", s)
	}
	x = begun(t, b)
	for i := range 300 {
		mustPut(t, x, "_a", string([]byte{byte(i >> 8), byte(i)}), "")
	}
	want(t, "kill", x.Kill("t"), api.OK)
	want(t, "kill", x.Kill("zz"), api.OK)
	want(t, "commit", x.Commit(), api.OK)
	if s := pageOf(t, d, 40, 0)[20:28]; s[:5] != "\x02\x02_a\x00" || s[6:] != "\x01\x2c" {
		t.Errorf("300 pairs: %q", s)
	}
	x = begun(t, b)
	want(t, "kill", x.Kill("_a"), api.OK)
	want(t, "kill", x.Kill("aaaaaaaa"), api.OK)
	want(t, "commit", x.Commit(), api.OK)
	if s := pageOf(t, d, 40, 0); s != strings.Repeat("\x00", 256) {
		t.Errorf("no table any more: %q", s)
	}
}

// fill puts pairs of the greatest size into a table, from a number on.
func fill(t testing.TB, x *base.Tx, name string, from, to int) {
	t.Helper()
	for i := from; i < to; i++ {
		mustPut(t, x, name, fmt.Sprintf("%032d", i), strings.Repeat("v", 40))
	}
}

// TestCommitThatIsTooLong: it isn't over, and can be committed when it has changed less, or be aborted.
func TestCommitThatIsTooLong(t *testing.T) {
	d, b, x := start(t, 100)
	mustMake(t, x, "t", "u")
	fill(t, x, "t", 0, 20)
	k := x.Save()
	wantNames(t, "ahead", x, "t", "u")
	was := seen(x)
	fill(t, x, "t", 20, 120)
	long, calls := seen(x), d.Calls()
	for range 2 {
		want(t, "commit", x.Commit(), api.ErrLong)
		if seen(x) != long {
			t.Error("a commit that is too long has changed something")
		}
		wantNoBegin(t, "a commit that is too long", b, api.ErrState)
	}
	if d.Calls() != calls {
		t.Error("a commit that is too long called the device")
	}
	wantNames(t, "a commit that is too long", begun(t, opened(t, copied(t, d), 100)))
	mustPut(t, x, "u", "it", "goes on")
	want(t, "commit", x.Commit(), api.ErrLong)
	want(t, "back", x.Back(k), api.OK)
	if seen(x) != was {
		t.Error("back:", seen(x))
	}
	want(t, "commit of less", x.Commit(), api.OK)
	wantNothing(t, "committed", x, api.ErrState)
	x = begun(t, b)
	if seen(x) != was {
		t.Error("committed:", seen(x))
	}
	fill(t, x, "u", 0, 100)
	want(t, "commit", x.Commit(), api.ErrLong)
	want(t, "abort", x.Abort(), api.OK)
	wantNothing(t, "aborted", x, api.ErrState)
	if x = begun(t, b); seen(x) != was {
		t.Error("aborted:", seen(x))
	}
	// What a transaction puts and takes back again isn't changed.
	fill(t, x, "u", 0, 100)
	want(t, "commit", x.Commit(), api.ErrLong)
	want(t, "kill", x.Kill("u"), api.OK)
	want(t, "commit", x.Commit(), api.OK)
	wantNames(t, "committed", begun(t, opened(t, d, 100)), "t")
}

// TestCommitOfJustEnough: 31 changed pages are committed, 32 aren't. How many they are is told by the calls of the device: eight for each page, and seven.
func TestCommitOfJustEnough(t *testing.T) {
	most, least := 0, 1000
	for n := 1; n < 80; n++ {
		d, _, x := start(t, 60)
		mustMake(t, x, "t")
		fill(t, x, "t", 0, n)
		calls := d.Calls()
		switch e := x.Commit(); e {
		case api.OK:
			most = max(most, (d.Calls()-calls-7)/8)
		case api.ErrLong:
			least = min(least, n)
		default:
			t.Fatal(n, "pairs:", e)
		}
	}
	if most != 31 || least < 31 {
		t.Error("at most", most, "pages were committed, not", 31, "; too many by", least, "pairs")
	}
	for n := least; n < 80; n++ {
		_, _, x := start(t, 60)
		mustMake(t, x, "t")
		fill(t, x, "t", 0, n)
		want(t, fmt.Sprint(n, " pairs"), x.Commit(), api.ErrLong)
	}
}

func TestNil(t *testing.T) {
	wantNoBegin(t, "no base", nil, api.ErrArg)
	wantNothing(t, "no transaction", nil, api.ErrArg)
	wantNoBegin(t, "a base that nobody opened", &base.Base{}, api.ErrArg)
	wantNothing(t, "a transaction that nobody began", &base.Tx{}, api.ErrArg)
	for _, name := range []string{"", "T", strings.Repeat("a", 9)} {
		var x *base.Tx
		want(t, "no transaction", x.Make(name), api.ErrArg)
		want(t, "no transaction", x.Kill(name), api.ErrArg)
		wantCount(t, "no transaction", x, name, 0, api.ErrArg)
	}
}

// TestOver: whatever is asked of a transaction that is over, it is so.
func TestOver(t *testing.T) {
	_, b, x := start(t, 4)
	mustMake(t, x, "t")
	want(t, "abort", x.Abort(), api.OK)
	for _, name := range []string{"t", "u", "", "T", strings.Repeat("a", 9)} {
		want(t, "make", x.Make(name), api.ErrState)
		want(t, "kill", x.Kill(name), api.ErrState)
		wantCount(t, "over", x, name, 0, api.ErrState)
		wantGet(t, "over", x, name, "", "", false, api.ErrState)
		want(t, "put", x.Put(name, "", strings.Repeat("v", 41)), api.ErrState)
		wantDelete(t, "over", x, name, "", false, api.ErrState)
		wantScan(t, "over", x, name, "", "", nil, api.ErrState)
	}
	y := begun(t, b)
	copied := *y
	wantNothing(t, "one that was copied isn't the base's", &copied, api.ErrState)
	wantNames(t, "the base's own goes on", y)
	mustMake(t, y, "t")
}

// TestSoundChangesNothing: notes and pages are as they were, however often it is asked.
func TestSoundChangesNothing(t *testing.T) {
	d, b, x := start(t, 30)
	mustMake(t, x, "t", "u")
	fill(t, x, "t", 0, 30)
	mustPut(t, x, "u", "a", "1")
	for k := range 5 {
		for range 3 {
			if !x.Sound() {
				t.Fatal("not sound")
			}
		}
		wantSave(t, "behind Sound", x, k)
		mustPut(t, x, "u", fmt.Sprint(k), "")
	}
	want(t, "back", x.Back(3), api.OK)
	wantCount(t, "back", x, "u", 4, api.OK)
	want(t, "back", x.Back(0), api.OK)
	wantCount(t, "back", x, "u", 1, api.OK)
	want(t, "commit", x.Commit(), api.OK)
	x = begun(t, b)
	calls := d.Calls()
	if !x.Sound() {
		t.Error("not sound")
	}
	want(t, "commit", x.Commit(), api.OK)
	if d.Calls() != calls {
		t.Error("Sound has changed something")
	}
}
