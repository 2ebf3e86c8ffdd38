package store_test

import (
	"fmt"
	"math"
	"slices"
	"strings"
	"testing"

	"factotum/api"
	"factotum/base"
	"factotum/device"
	"factotum/store"
	"factotum/undo"
)

func num(n int64) api.Value { return api.Value{Kind: api.Int, N: n} }

func text(s string) api.Value { return api.Value{Kind: api.Text, S: s} }

// of is a schema: i and t are its kinds, then Unique and Index.
func of(kinds string, unique, index int) api.Schema {
	s := api.Schema{Unique: unique, Index: index}
	for _, k := range kinds {
		s.Kinds = append(s.Kinds, map[rune]api.Kind{'i': api.Int, 't': api.Text}[k])
	}
	return s
}

// row is a row of numbers and texts.
func row(l ...any) api.Row {
	var r api.Row
	for _, v := range l {
		switch v := v.(type) {
		case int:
			r = append(r, num(int64(v)))
		case string:
			r = append(r, text(v))
		case api.Value:
			r = append(r, v)
		}
	}
	return r
}

// wrong is values that may not be, or fit no column, whatever its kind is.
var wrong = []api.Value{
	{}, {Kind: 3}, {Kind: -1}, {Kind: 0, N: 1}, {Kind: 3, S: "a"},
	{Kind: api.Int, S: "a"}, {Kind: api.Int, N: 1, S: "a"}, {Kind: api.Text, N: 1}, {Kind: api.Text, N: 1, S: "a"},
	{Kind: api.Text, S: "elevenbytes"}, {Kind: api.Text, S: strings.Repeat("\x00", 11)}, {Kind: api.Text, S: strings.Repeat("a", 300)},
}

func opened(t testing.TB, d *device.Device, pages int) *base.Base {
	t.Helper()
	b, e := base.Open(d, pages)
	if e != api.OK {
		t.Fatal("open:", e)
	}
	return b
}

func begun(t testing.TB, b *base.Base) *base.Tx {
	t.Helper()
	x, e := b.Begin()
	if e != api.OK {
		t.Fatal("begin:", e)
	}
	return x
}

// start is a transaction on a new device.
func start(t testing.TB, pages int) *base.Tx {
	t.Helper()
	return begun(t, opened(t, device.New(undo.Need(pages)), pages))
}

// seen is all that a transaction has.
func seen(x *base.Tx) string {
	var b strings.Builder
	for _, name := range x.Names() {
		n, e := x.Count(name)
		l, f := x.Scan(name, "", "")
		fmt.Fprintf(&b, "%s: %d %d, %q %d\n", name, n, e, l, f)
	}
	return b.String()
}

// still says that what is done changes something.
func still(t testing.TB, x *base.Tx, what string, do func()) {
	t.Helper()
	was := seen(x)
	do()
	if now := seen(x); now != was {
		t.Errorf("%s: something has changed:\n%s\n%s", what, was, now)
	}
}

func want(t testing.TB, what string, got, e api.Errno) {
	t.Helper()
	if got != e {
		t.Errorf("%s: %d, not %d", what, got, e)
	}
}

func wantSound(t testing.TB, what string, x *base.Tx, sound bool) {
	t.Helper()
	if store.Sound(x) != sound {
		t.Errorf("%s: sound is %v", what, !sound)
	}
}

func sameRows(l, m []api.Row) bool {
	return slices.EqualFunc(l, m, func(a, b api.Row) bool { return slices.Equal(a, b) })
}

func wantNames(t testing.TB, what string, x *base.Tx, names ...string) {
	t.Helper()
	if l := store.Names(x); !slices.Equal(l, names) {
		t.Errorf("%s: the names are %q, not %q", what, l, names)
	}
}

func wantDescribe(t testing.TB, what string, x *base.Tx, name string, s api.Schema, e api.Errno) {
	t.Helper()
	got, err := store.Describe(x, name)
	if err != e || !slices.Equal(got.Kinds, s.Kinds) || got.Unique != s.Unique || got.Index != s.Index {
		t.Errorf("%s: describe %q: %v and %d, not %v and %d", what, name, got, err, s, e)
	}
}

// wantGet asks for a row; nil: there is none.
func wantGet(t testing.TB, what string, x *base.Tx, name string, k api.Value, r api.Row, e api.Errno) {
	t.Helper()
	if got, there, err := store.Get(x, name, k); err != e || there != (r != nil) || !slices.Equal(got, r) {
		t.Errorf("%s: get %v of %q: %v, %v and %d, not %v and %d", what, k, name, got, there, err, r, e)
	}
}

func wantRemove(t testing.TB, what string, x *base.Tx, name string, k api.Value, there bool, e api.Errno) {
	t.Helper()
	if got, err := store.Remove(x, name, k); err != e || got != there {
		t.Errorf("%s: remove %v of %q: %v and %d, not %v and %d", what, k, name, got, err, there, e)
	}
}

func wantAll(t testing.TB, what string, x *base.Tx, name string, e api.Errno, l ...api.Row) {
	t.Helper()
	if got, err := store.All(x, name); err != e || !sameRows(got, l) {
		t.Errorf("%s: all of %q: %v and %d, not %v and %d", what, name, got, err, l, e)
	}
}

// wantBy asks for a row by its value in the column Unique; nil: there is none.
func wantBy(t testing.TB, what string, x *base.Tx, name string, v api.Value, r api.Row, e api.Errno) {
	t.Helper()
	if got, there, err := store.By(x, name, v); err != e || there != (r != nil) || !slices.Equal(got, r) {
		t.Errorf("%s: by %v of %q: %v, %v and %d, not %v and %d", what, v, name, got, there, err, r, e)
	}
}

func wantLook(t testing.TB, what string, x *base.Tx, name string, n int64, e api.Errno, l ...api.Row) {
	t.Helper()
	if got, err := store.Look(x, name, n); err != e || !sameRows(got, l) {
		t.Errorf("%s: look %d of %q: %v and %d, not %v and %d", what, n, name, got, err, l, e)
	}
}

func mustCreate(t testing.TB, x *base.Tx, name string, s api.Schema) {
	t.Helper()
	if e := store.Create(x, name, s); e != api.OK {
		t.Fatalf("create %q: %d", name, e)
	}
}

func mustPut(t testing.TB, x *base.Tx, name string, l ...api.Row) {
	t.Helper()
	for _, r := range l {
		if e := store.Put(x, name, r); e != api.OK {
			t.Fatalf("put %v into %q: %d", r, name, e)
		}
	}
}

func TestExample(t *testing.T) {
	x := start(t, 20)
	mustCreate(t, x, "t", of("it", 1, 0))
	mustPut(t, x, "t", row(1, "a"))
	want(t, "another row with its value", store.Put(x, "t", row(2, "a")), api.ErrTwice)
	wantAll(t, "behind ErrTwice", x, "t", api.OK, row(1, "a"))
	mustPut(t, x, "t", row(1, "b"), row(2, "a"))
	wantAll(t, "both are there", x, "t", api.OK, row(1, "b"), row(2, "a"))
	wantBy(t, "both are there", x, "t", text("a"), row(2, "a"), api.OK)
	wantBy(t, "both are there", x, "t", text("b"), row(1, "b"), api.OK)
	wantSound(t, "both are there", x, true)
}

func TestEmpty(t *testing.T) {
	x := start(t, 4)
	wantNames(t, "nothing", x)
	wantSound(t, "nothing", x, true)
	wantNoTable(t, "nothing", x, "t")
	mustCreate(t, x, "t", of("iti", 1, 2))
	wantNames(t, "no rows", x, "t")
	wantAll(t, "no rows", x, "t", api.OK)
	wantGet(t, "no rows", x, "t", num(0), nil, api.OK)
	wantRemove(t, "no rows", x, "t", num(0), false, api.OK)
	wantBy(t, "no rows", x, "t", text(""), nil, api.OK)
	wantLook(t, "no rows", x, "t", 0, api.OK)
	wantSound(t, "no rows", x, true)
}

// wantNoTable asks all calls that need a table for one that isn't there, whatever else is handed in.
func wantNoTable(t testing.TB, what string, x *base.Tx, name string) {
	t.Helper()
	still(t, x, what, func() {
		t.Helper()
		wantDescribe(t, what, x, name, api.Schema{}, api.ErrIndex)
		wantAll(t, what, x, name, api.ErrIndex)
		for _, n := range []int64{0, 7, math.MinInt64} {
			wantLook(t, what, x, name, n, api.ErrIndex)
		}
		for _, v := range append([]api.Value{num(1), text("a")}, wrong...) {
			wantGet(t, what, x, name, v, nil, api.ErrIndex)
			wantRemove(t, what, x, name, v, false, api.ErrIndex)
			wantBy(t, what, x, name, v, nil, api.ErrIndex)
			for _, r := range []api.Row{nil, {v}, {num(1), v}, {num(1), text("a"), v}} {
				want(t, what+": put", store.Put(x, name, r), api.ErrIndex)
			}
		}
	})
}

func TestNames(t *testing.T) {
	s := of("iti", 1, 2)
	may := []string{"abcdef", "zzzzzz", "aaaaaa", "aa", "az", "za"}
	for c := 'a'; c <= 'z'; c++ {
		may = append(may, string(c), "x"+string(c), strings.Repeat(string(c), 6))
	}
	for _, name := range may {
		x := start(t, 8)
		want(t, "create "+name, store.Create(x, name, s), api.OK)
		mustPut(t, x, name, row(1, "a", 7))
		wantGet(t, name, x, name, num(1), row(1, "a", 7), api.OK)
		wantNames(t, name, x, name)
		wantDescribe(t, name, x, name, s, api.OK)
		if l := x.Names(); !slices.Equal(l, []string{"_s", name + "_i", name + "_r", name + "_u"}) {
			t.Errorf("%s lies in %q", name, l)
		}
	}
	mayNot := []string{
		"", "aaaaaaa", "abcdefg", "aaaaaaaa", "aaaaaaaaa", strings.Repeat("a", 33), strings.Repeat("a", 256), strings.Repeat("a", 257),
		"_", "_s", "t_", "t_r", "t_u", "t_i", "_t", "a_b", "é", "aé", "ß", "а", "ａ", "日", "\xff", "a\xff", "\xc3", "a\x80", "\ufffd", "\U0001d41a", "A", "aA", "a1", "aaaaa1", "a a",
	}
	for c := range 256 {
		if s := string([]byte{byte(c)}); c < 'a' || c > 'z' {
			mayNot = append(mayNot, s, "a"+s, s+"a", "abcde"+s)
		}
	}
	for _, there := range []bool{false, true} {
		x := start(t, 8)
		if there {
			mustCreate(t, x, "t", s)
			mustPut(t, x, "t", row(1, "a", 7))
		}
		for _, name := range mayNot {
			what := fmt.Sprintf("%q", name)
			still(t, x, what, func() {
				want(t, "create "+what, store.Create(x, name, s), api.ErrArg)
				want(t, "create "+what, store.Create(x, name, api.Schema{}), api.ErrArg)
			})
			wantNoTable(t, what, x, name)
		}
		wantSound(t, "behind names that may not be", x, true)
	}
}

func TestTablesThatArentThere(t *testing.T) {
	x := start(t, 20)
	mustCreate(t, x, "t", of("iti", 1, 2))
	mustPut(t, x, "t", row(1, "a", 7))
	mustCreate(t, x, "tt", of("t", 0, 0))
	for _, name := range []string{"u", "ttt", "s", "r", "a", "tttttt"} {
		wantNoTable(t, name, x, name)
	}
}

func TestSchemas(t *testing.T) {
	for _, s := range []api.Schema{
		of("i", 0, 0), of("t", 0, 0), of("it", 1, 0), of("ti", 1, 1), of("ii", 0, 1), of("tt", 1, 0),
		of("itit", 3, 2), of("itit", 2, 2), of("tttt", 3, 0), of("iiii", 1, 3),
	} {
		x := start(t, 8)
		what := fmt.Sprint(s)
		want(t, what, store.Create(x, "t", s), api.OK)
		wantDescribe(t, what, x, "t", s, api.OK)
		wantSound(t, what, x, true)
		names := []string{"_s", "t_r"}
		if s.Unique > 0 {
			names = append(names, "t_u")
		}
		if s.Index > 0 {
			names = append(names, "t_i")
		}
		slices.Sort(names)
		if l := x.Names(); !slices.Equal(l, names) {
			t.Errorf("%v lies in %q", s, l)
		}
	}
	for _, s := range []api.Schema{
		{}, {Unique: 1}, of("iiiii", 0, 0), {Kinds: []api.Kind{0}}, {Kinds: []api.Kind{3}}, {Kinds: []api.Kind{-1}}, {Kinds: []api.Kind{1, 258}},
		of("it", 2, 0), of("it", -1, 0), of("it", 0, 2), of("it", 0, -1), of("it", 0, 1), of("it", 1, 1), of("ii", 256, 0), of("ii", 257, 0), of("ii", 0, 257),
		of("i", 1, 0), of("i", 0, 1), of("iiii", 4, 0), of("iiii", 0, 4), of("ii", math.MinInt, 0), of("ii", 0, math.MaxInt),
	} {
		for _, name := range []string{"t", "u"} {
			x := start(t, 8)
			mustCreate(t, x, "t", of("it", 0, 0))
			what := fmt.Sprint(name, " ", s)
			// It is told ahead of ErrTwice.
			still(t, x, what, func() { want(t, what, store.Create(x, name, s), api.ErrField) })
			wantDescribe(t, what, x, "t", of("it", 0, 0), api.OK)
			wantSound(t, what, x, true)
		}
	}
}

func TestCreateTwice(t *testing.T) {
	x := start(t, 20)
	s := of("iti", 1, 2)
	mustCreate(t, x, "t", s)
	for range 2 {
		for _, other := range []api.Schema{s, of("i", 0, 0), of("tttt", 3, 0)} {
			still(t, x, "twice", func() { want(t, "twice", store.Create(x, "t", other), api.ErrTwice) })
		}
		wantDescribe(t, "it stays", x, "t", s, api.OK)
		mustPut(t, x, "t", row(1, "a", 7))
	}
}

// TestTooManyTables: drawn tables, with as many tables of bytes as each has, up to 12 with that of the schemas.
func TestTooManyTables(t *testing.T) {
	dr := draws(5)
	schemas := []api.Schema{of("ii", 0, 0), of("it", 1, 0), of("ii", 0, 1), of("ii", 1, 1)}
	refused := 0
	for range 60 {
		x := start(t, 20)
		bytes := 1
		var names []string
		for i := range 14 {
			name := string(rune('a' + i))
			s := schemas[dr.below(len(schemas))]
			e := api.OK
			size := len(lying("", s))
			if bytes+size > 12 {
				e = api.ErrLong
				refused++
			} else {
				bytes += size
				names = append(names, name)
			}
			was := seen(x)
			want(t, fmt.Sprint(bytes, " and ", size), store.Create(x, name, s), e)
			if e != api.OK && seen(x) != was {
				t.Error("a table too many has changed something")
			}
			wantSound(t, name, x, true)
		}
		wantNames(t, "many", x, names...)
		// One that is there, a name and a schema that may not be are told ahead of it.
		want(t, "twice", store.Create(x, "a", of("ii", 1, 1)), api.ErrTwice)
		want(t, "a name that may not be", store.Create(x, "A", of("ii", 1, 1)), api.ErrArg)
		want(t, "a schema that may not be", store.Create(x, "zz", of("ii", 1, 2)), api.ErrField)
	}
	if refused < 100 {
		t.Error("too few were refused:", refused)
	}
}

// lying is the tables of bytes of a table of rows.
func lying(name string, s api.Schema) []string {
	l := []string{name + "_r"}
	if s.Unique != 0 {
		l = append(l, name+"_u")
	}
	if s.Index != 0 {
		l = append(l, name+"_i")
	}
	return l
}

// TestTooManyTablesOfOthers: all tables of bytes count, and that of the schemas, also when it isn't there yet.
func TestTooManyTablesOfOthers(t *testing.T) {
	for others := range 13 {
		for _, s := range []api.Schema{of("ii", 0, 0), of("it", 1, 0), of("ii", 0, 1), of("ii", 1, 1)} {
			for _, schemas := range []bool{false, true} {
				x := start(t, 4)
				if schemas && others > 0 {
					want(t, "make", x.Make("_s"), api.OK)
				}
				for i := 0; len(x.Names()) < others; i++ {
					want(t, "make", x.Make("z"+string(rune('a'+i))), api.OK)
				}
				count := others + len(lying("t", s))
				if !schemas || others == 0 {
					count++
				}
				e := api.OK
				if count > 12 {
					e = api.ErrLong
				}
				was := seen(x)
				want(t, fmt.Sprint(others, s, schemas), store.Create(x, "t", s), e)
				if e != api.OK && seen(x) != was {
					t.Error("a table too many has changed something")
				}
			}
		}
	}
}

func TestRowsThatDontFit(t *testing.T) {
	x := start(t, 20)
	mustCreate(t, x, "t", of("iti", 1, 2))
	mustPut(t, x, "t", row(1, "a", 7), row(2, "b", 7))
	refused := func(r api.Row, e api.Errno) {
		t.Helper()
		still(t, x, fmt.Sprint(r), func() { t.Helper(); want(t, fmt.Sprint(r), store.Put(x, "t", r), e) })
		wantSound(t, fmt.Sprint(r), x, true)
	}
	// Another number of values is told ahead of those that don't fit, and both ahead of ErrTwice.
	for _, r := range []api.Row{nil, {}, row(1), row(1, "a"), row(1, "a", 7, 8), row("a"), row(1, 2), row(1, "a", 7, "x"), row(wrong[0]), row(1, "a", 7, wrong[1]), row(3, "a")} {
		refused(r, api.ErrIndex)
	}
	for _, v := range wrong {
		for at := range 3 {
			r := row(3, "a", 7)
			r[at] = v
			refused(r, api.ErrKind)
		}
	}
	for _, r := range []api.Row{row("x", "a", 7), row(1, 2, 3), row(3, "a", "b"), row("1", 1, "1"), row(3, "elevenbytes", 7)} {
		refused(r, api.ErrKind)
	}
	mustPut(t, x, "t", row(3, "ten bytes!", 7))
	wantAll(t, "behind them", x, "t", api.OK, row(1, "a", 7), row(2, "b", 7), row(3, "ten bytes!", 7))
}

func TestValuesThatDontFit(t *testing.T) {
	x := start(t, 30)
	mustCreate(t, x, "t", of("iti", 1, 2))
	mustPut(t, x, "t", row(1, "a", 7))
	mustCreate(t, x, "u", of("tii", 2, 0))
	mustPut(t, x, "u", row("a", 1, 7))
	mustCreate(t, x, "n", of("ti", 0, 0))
	mustPut(t, x, "n", row("a", 1))
	still(t, x, "values that don't fit", func() {
		for _, v := range append([]api.Value{text("1"), text("")}, wrong...) {
			wantGet(t, "an Int", x, "t", v, nil, api.ErrKind)
			wantRemove(t, "an Int", x, "t", v, false, api.ErrKind)
			wantBy(t, "an Int", x, "u", v, nil, api.ErrKind)
		}
		for _, v := range append([]api.Value{num(1), num(0)}, wrong...) {
			wantGet(t, "a Text", x, "u", v, nil, api.ErrKind)
			wantRemove(t, "a Text", x, "u", v, false, api.ErrKind)
			wantBy(t, "a Text", x, "t", v, nil, api.ErrKind)
		}
		// Without such a column nothing else is told.
		for _, v := range append([]api.Value{num(1), text("a")}, wrong...) {
			wantBy(t, "without Unique", x, "n", v, nil, api.ErrIndex)
		}
		for _, n := range []int64{0, 1, 7, -1, math.MinInt64, math.MaxInt64} {
			wantLook(t, "without Index", x, "n", n, api.ErrIndex)
			wantLook(t, "without Index", x, "u", n, api.ErrIndex)
		}
	})
	wantSound(t, "behind them", x, true)
}

// TestMoves: a row that is put again, with its own value and with others.
func TestMoves(t *testing.T) {
	x := start(t, 30)
	mustCreate(t, x, "t", of("itit", 1, 2))
	mustPut(t, x, "t", row(1, "a", 7, "x"), row(2, "b", 7, "x"), row(3, "c", 8, "x"))
	check := func(what string, l ...api.Row) {
		t.Helper()
		wantAll(t, what, x, "t", api.OK, l...)
		for _, s := range []string{"a", "b", "c", "d"} {
			i := slices.IndexFunc(l, func(r api.Row) bool { return r[1].S == s })
			if i < 0 {
				wantBy(t, what, x, "t", text(s), nil, api.OK)
			} else {
				wantBy(t, what, x, "t", text(s), l[i], api.OK)
			}
		}
		for n := range int64(10) {
			wantLook(t, what, x, "t", n, api.OK, slices.DeleteFunc(slices.Clone(l), func(r api.Row) bool { return r[2].N != n })...)
		}
		wantSound(t, what, x, true)
	}
	check("at first", row(1, "a", 7, "x"), row(2, "b", 7, "x"), row(3, "c", 8, "x"))
	still(t, x, "the very same", func() { mustPut(t, x, "t", row(1, "a", 7, "x")) })
	mustPut(t, x, "t", row(1, "a", 7, "y"))
	check("with another rest", row(1, "a", 7, "y"), row(2, "b", 7, "x"), row(3, "c", 8, "x"))
	mustPut(t, x, "t", row(1, "a", 8, "y"))
	check("with another number", row(1, "a", 8, "y"), row(2, "b", 7, "x"), row(3, "c", 8, "x"))
	mustPut(t, x, "t", row(1, "d", 8, "y"))
	check("with another value", row(1, "d", 8, "y"), row(2, "b", 7, "x"), row(3, "c", 8, "x"))
	mustPut(t, x, "t", row(2, "a", 9, ""))
	check("with what another one had", row(1, "d", 8, "y"), row(2, "a", 9, ""), row(3, "c", 8, "x"))
	for _, r := range []api.Row{row(1, "a", 8, "y"), row(2, "c", 9, ""), row(4, "d", 0, "x"), row(0, "a", 9, "")} {
		still(t, x, "twice", func() { want(t, fmt.Sprint(r), store.Put(x, "t", r), api.ErrTwice) })
	}
	wantRemove(t, "remove", x, "t", num(2), true, api.OK)
	check("removed", row(1, "d", 8, "y"), row(3, "c", 8, "x"))
	wantRemove(t, "remove", x, "t", num(2), false, api.OK)
	mustPut(t, x, "t", row(4, "a", 8, "x"))
	check("with what was removed", row(1, "d", 8, "y"), row(3, "c", 8, "x"), row(4, "a", 8, "x"))
	for _, k := range []int64{1, 3, 4} {
		wantRemove(t, "remove", x, "t", num(k), true, api.OK)
	}
	check("nothing is left")
}

// TestOneColumn: the column Unique is looked up, too.
func TestOneColumn(t *testing.T) {
	x := start(t, 20)
	mustCreate(t, x, "t", of("ti", 1, 1))
	mustPut(t, x, "t", row("a", 1), row("b", 2))
	want(t, "twice", store.Put(x, "t", row("c", 2)), api.ErrTwice)
	mustPut(t, x, "t", row("b", 3), row("c", 2), row("a", 1))
	for n, r := range map[int64]api.Row{1: row("a", 1), 2: row("c", 2), 3: row("b", 3)} {
		wantBy(t, "one column", x, "t", num(n), r, api.OK)
		wantLook(t, "one column", x, "t", n, api.OK, r)
	}
	wantSound(t, "one column", x, true)
}

// TestOrder: rows are told as their first values are ordered, byte by byte and below 0 too.
func TestOrder(t *testing.T) {
	x := start(t, 40)
	mustCreate(t, x, "n", of("ii", 0, 1))
	mustCreate(t, x, "t", of("ti", 0, 1))
	numbers := []int64{math.MinInt64, -1 << 32, -256, -2, -1, 0, 1, 2, 255, 256, 1 << 32, math.MaxInt64}
	texts := []string{"", "\x00", "\x00\x00", "\x00\x01", "\x00a", "\x01", "a", "a\x00", "a\x00\x00", "a\x00b", "aa", "ab", "b", "\xff", "\xff\x00", "\xff\xff"}
	var l, m []api.Row
	for _, n := range numbers {
		l = append(l, row(num(n), 5))
	}
	for _, s := range texts {
		m = append(m, row(s, 5))
	}
	for i := range len(numbers) {
		mustPut(t, x, "n", l[i*7%len(numbers)])
	}
	for i := range len(texts) {
		mustPut(t, x, "t", m[i*7%len(texts)])
	}
	wantAll(t, "numbers", x, "n", api.OK, l...)
	wantAll(t, "texts", x, "t", api.OK, m...)
	wantLook(t, "numbers", x, "n", 5, api.OK, l...)
	wantLook(t, "texts", x, "t", 5, api.OK, m...)
	for _, n := range []int64{4, 6, math.MinInt64, math.MaxInt64} {
		wantLook(t, "numbers", x, "n", n, api.OK)
	}
}

// TestEdges: the longest keys and rests that there can be, and the least and greatest numbers.
func TestEdges(t *testing.T) {
	x := start(t, 60)
	noughts, high := strings.Repeat("\x00", 10), strings.Repeat("\xff", 10)
	mustCreate(t, x, "t", of("titt", 2, 1))
	l := []api.Row{
		row(noughts, num(math.MaxInt64), noughts, high), row(high, num(math.MinInt64), high, noughts),
		row("", 0, "", ""), row("\x00", -1, "\x00", "a"),
	}
	mustPut(t, x, "t", l...)
	for _, r := range l {
		wantGet(t, "edges", x, "t", r[0], r, api.OK)
		wantBy(t, "edges", x, "t", r[2], r, api.OK)
		wantLook(t, "edges", x, "t", r[1].N, api.OK, r)
	}
	wantAll(t, "edges", x, "t", api.OK, l[2], l[3], l[0], l[1])
	wantSound(t, "edges", x, true)
	for i, r := range l {
		wantRemove(t, "edges", x, "t", r[0], true, api.OK)
		wantGet(t, "edges", x, "t", r[0], nil, api.OK)
		wantSound(t, fmt.Sprint("edges, without ", i), x, true)
	}
}

// TestHowItLies: the chapter's tables of bytes, byte by byte.
func TestHowItLies(t *testing.T) {
	x := start(t, 20)
	mustCreate(t, x, "tab", of("iti", 1, 2))
	mustCreate(t, x, "n", of("t", 0, 0))
	mustPut(t, x, "tab", row(7, "a", -1), row(-1, "\x00b", 258))
	mustPut(t, x, "n", row("k"))
	seven, minus := "\x01\x80\x00\x00\x00\x00\x00\x00\x07", "\x01\x7f\xff\xff\xff\xff\xff\xff\xff"
	for name, pairs := range map[string][]api.Pair{
		"_s":    {{Key: "n", Value: "\x01\x02\x00\x00"}, {Key: "tab", Value: "\x03\x01\x02\x01\x01\x02"}},
		"n_r":   {{Key: "\x02k\x00\x01"}},
		"tab_r": {{Key: minus, Value: "\x02\x00b\x00\x00\x00\x00\x00\x00\x01\x02"}, {Key: seven, Value: "\x01a\xff\xff\xff\xff\xff\xff\xff\xff"}},
		"tab_u": {{Key: "\x02\x00\xffb\x00\x01", Value: minus}, {Key: "\x02a\x00\x01", Value: seven}},
		"tab_i": {{Key: minus + seven}, {Key: "\x01\x80\x00\x00\x00\x00\x00\x01\x02" + minus}},
	} {
		if l, e := x.Scan(name, "", ""); e != api.OK || !slices.Equal(l, pairs) {
			t.Errorf("%s has %q and %d, not %q", name, l, e, pairs)
		}
	}
	if l := x.Names(); !slices.Equal(l, []string{"_s", "n_r", "tab_i", "tab_r", "tab_u"}) {
		t.Errorf("the tables of bytes are %q", l)
	}
}

// TestMemory: nothing that is handed in is changed or kept, and what is answered is new.
func TestMemory(t *testing.T) {
	x := start(t, 20)
	s := of("iti", 1, 2)
	mustCreate(t, x, "t", s)
	s.Kinds[0], s.Kinds[1] = api.Text, api.Int
	r := row(1, "a", 7)
	mustPut(t, x, "t", r)
	if !slices.Equal(r, row(1, "a", 7)) {
		t.Error("a row that was put has changed:", r)
	}
	spoil := func(l ...api.Row) {
		for _, r := range l {
			for i := range r {
				r[i] = text("spoilt")
			}
		}
	}
	spoil(r)
	for range 2 {
		wantDescribe(t, "memory", x, "t", of("iti", 1, 2), api.OK)
		wantNames(t, "memory", x, "t")
		wantGet(t, "memory", x, "t", num(1), row(1, "a", 7), api.OK)
		wantBy(t, "memory", x, "t", text("a"), row(1, "a", 7), api.OK)
		wantAll(t, "memory", x, "t", api.OK, row(1, "a", 7))
		wantLook(t, "memory", x, "t", 7, api.OK, row(1, "a", 7))
		d, _ := store.Describe(x, "t")
		d.Kinds[0] = 9
		store.Names(x)[0] = "spoilt"
		a, _, _ := store.Get(x, "t", num(1))
		b, _, _ := store.By(x, "t", text("a"))
		l, _ := store.All(x, "t")
		m, _ := store.Look(x, "t", 7)
		spoil(a, b)
		spoil(l...)
		spoil(m...)
	}
}

// TestKept: what is committed is there for the next transaction, and what is aborted isn't.
func TestKept(t *testing.T) {
	d := device.New(undo.Need(40))
	b := opened(t, d, 40)
	x := begun(t, b)
	mustCreate(t, x, "t", of("it", 1, 0))
	mustPut(t, x, "t", row(1, "a"))
	want(t, "commit", x.Commit(), api.OK)
	x = begun(t, b)
	mustPut(t, x, "t", row(2, "b"))
	mustCreate(t, x, "u", of("i", 0, 0))
	want(t, "abort", x.Abort(), api.OK)
	d.Crash(nil, -1, 0)
	for _, b := range []*base.Base{b, opened(t, d, 40)} {
		x := begun(t, b)
		wantNames(t, "kept", x, "t")
		wantAll(t, "kept", x, "t", api.OK, row(1, "a"))
		wantSound(t, "kept", x, true)
	}
}

// TestNotes: notes that were made ahead of calls can be gone back to.
func TestNotes(t *testing.T) {
	x := start(t, 40)
	k := x.Save()
	mustCreate(t, x, "t", of("iti", 1, 2))
	m := x.Save()
	mustPut(t, x, "t", row(1, "a", 7))
	want(t, "twice", store.Put(x, "t", row(2, "a", 7)), api.ErrTwice)
	n := x.Save()
	wantRemove(t, "remove", x, "t", num(1), true, api.OK)
	for range 2 {
		want(t, "back", x.Back(n), api.OK)
		wantAll(t, "back", x, "t", api.OK, row(1, "a", 7))
		wantSound(t, "back", x, true)
		mustPut(t, x, "t", row(1, "b", 8))
	}
	want(t, "back", x.Back(m), api.OK)
	wantAll(t, "back", x, "t", api.OK)
	want(t, "back", x.Back(k), api.OK)
	wantNames(t, "back", x)
	wantSound(t, "back", x, true)
}

// wantNothing asks each call of a transaction of which nothing can be asked, with arguments that are right and wrong.
func wantNothing(t testing.TB, what string, x *base.Tx, e api.Errno) {
	t.Helper()
	for _, name := range []string{"t", "u", "", "T", "abcdefg", "_s"} {
		for _, s := range []api.Schema{of("iti", 1, 2), {}} {
			want(t, what+": create", store.Create(x, name, s), e)
		}
		wantDescribe(t, what, x, name, api.Schema{}, e)
		wantAll(t, what, x, name, e)
		wantLook(t, what, x, name, 7, e)
		for _, v := range append([]api.Value{num(1), text("a")}, wrong...) {
			want(t, what+": put", store.Put(x, name, row(v, "a", 7)), e)
			wantGet(t, what, x, name, v, nil, e)
			wantRemove(t, what, x, name, v, false, e)
			wantBy(t, what, x, name, v, nil, e)
		}
	}
	wantNames(t, what, x)
	wantSound(t, what, x, false)
}

func TestNoTransaction(t *testing.T) {
	wantNothing(t, "nil", nil, api.ErrArg)
	wantNothing(t, "one that nobody began", &base.Tx{}, api.ErrArg)
	ends := map[string]func(d *device.Device, x *base.Tx) api.Errno{
		"committed": func(_ *device.Device, x *base.Tx) api.Errno { return x.Commit() },
		"aborted":   func(_ *device.Device, x *base.Tx) api.Errno { return x.Abort() },
		"crashed": func(d *device.Device, x *base.Tx) api.Errno {
			d.Stop(3)
			return x.Commit() - api.ErrCrash
		},
	}
	for what, end := range ends {
		d := device.New(undo.Need(20))
		b := opened(t, d, 20)
		x := begun(t, b)
		mustCreate(t, x, "t", of("iti", 1, 2))
		mustPut(t, x, "t", row(1, "a", 7))
		want(t, what, end(d, x), api.OK)
		wantNothing(t, what, x, api.ErrState)
		if what == "crashed" {
			continue
		}
		// Another one that has begun since doesn't change that, and isn't changed.
		y := begun(t, b)
		still(t, y, what, func() { wantNothing(t, what, x, api.ErrState) })
	}
}
