package store_test

import (
	"fmt"
	"math"
	"slices"
	"strings"
	"testing"

	"factotum/api"
	"factotum/base"
	"factotum/device"
	"factotum/node"
	"factotum/pager"
	"factotum/store"
	"factotum/undo"
)

// rowsThere is what the table t has, when somebody else has been at its tables of bytes.
var rowsThere = []api.Row{row(1, "a", 7), row(2, "b", 7), row(3, "c", 8)}

func key(n int64) string { return keyOf(num(n)) }

// laid is a transaction with two tables, t with a Unique and an Index, n with neither.
func laid(t testing.TB) *base.Tx {
	t.Helper()
	x := start(t, 40)
	mustCreate(t, x, "t", of("iti", 1, 2))
	mustPut(t, x, "t", rowsThere...)
	mustCreate(t, x, "n", of("tt", 0, 0))
	mustPut(t, x, "n", row("k", "v"))
	wantSound(t, "laid", x, true)
	return x
}

// must is for what is done to tables of bytes.
func must(t testing.TB, what string, e api.Errno) {
	t.Helper()
	if e != api.OK {
		t.Fatalf("%s: %d", what, e)
	}
}

func lay(t testing.TB, x *base.Tx, name, key, value string) {
	t.Helper()
	must(t, "put into "+name, x.Put(name, key, value))
}

func cut(t testing.TB, x *base.Tx, name, key string) {
	t.Helper()
	if there, e := x.Delete(name, key); !there || e != api.OK {
		t.Fatalf("delete %q of %s: %v and %d", key, name, there, e)
	}
}

// calls is calls on the table t, by what they are, and the error of each.
func calls(x *base.Tx) map[string]func() (any, api.Errno) {
	m := map[string]func() (any, api.Errno){
		"create":   func() (any, api.Errno) { return nil, store.Create(x, "t", of("iti", 1, 2)) },
		"describe": func() (any, api.Errno) { s, e := store.Describe(x, "t"); return len(s.Kinds) + s.Unique + s.Index, e },
		"all":      func() (any, api.Errno) { l, e := store.All(x, "t"); return len(l), e },
		"put 4 d 9": func() (any, api.Errno) {
			return nil, store.Put(x, "t", row(4, "d", 9))
		},
		"put 4 a 9": func() (any, api.Errno) { return nil, store.Put(x, "t", row(4, "a", 9)) },
		"put 1 b 7": func() (any, api.Errno) { return nil, store.Put(x, "t", row(1, "b", 7)) },
		"put 1 a 7": func() (any, api.Errno) { return nil, store.Put(x, "t", row(1, "a", 7)) },
		"put 1 d 7": func() (any, api.Errno) { return nil, store.Put(x, "t", row(1, "d", 7)) },
		"put 2 b 8": func() (any, api.Errno) { return nil, store.Put(x, "t", row(2, "b", 8)) },
	}
	for k := int64(1); k < 5; k++ {
		m[fmt.Sprint("get ", k)] = func() (any, api.Errno) {
			r, there, e := store.Get(x, "t", num(k))
			return fmt.Sprint(len(r), there), e
		}
		m[fmt.Sprint("remove ", k)] = func() (any, api.Errno) { there, e := store.Remove(x, "t", num(k)); return there, e }
	}
	for _, s := range []string{"a", "b", "d"} {
		m["by "+s] = func() (any, api.Errno) {
			r, there, e := store.By(x, "t", text(s))
			return fmt.Sprint(len(r), there), e
		}
	}
	for _, n := range []int64{7, 8, 9} {
		m[fmt.Sprint("look ", n)] = func() (any, api.Errno) { l, e := store.Look(x, "t", n); return len(l), e }
	}
	return m
}

// ever is what the calls answer when nobody has been at the tables of bytes, where that isn't OK.
var ever = map[string]api.Errno{"create": api.ErrTwice, "put 4 a 9": api.ErrTwice, "put 1 b 7": api.ErrTwice}

// wantCorrupt says that a call that should answer ErrCorrupt answers another error, or that another call doesn't answer as ever.
func wantCorrupt(t *testing.T, x *base.Tx, corrupt ...string) {
	t.Helper()
	wantSound(t, "tampered", x, false)
	zero := map[any]bool{nil: true, 0: true, false: true, "0 false": true}
	for what, call := range calls(x) {
		k := x.Save()
		was := seen(x)
		e := ever[what]
		if slices.Contains(corrupt, what) {
			e = api.ErrCorrupt
		}
		got, err := call()
		if err != e {
			t.Errorf("%s: %d, not %d", what, err, e)
		}
		if err != api.OK && (!zero[got] || seen(x) != was) {
			t.Errorf("%s: beside %d stands %v, or something has changed", what, err, got)
		}
		must(t, "back", x.Back(k))
	}
	for _, what := range corrupt {
		if calls(x)[what] == nil {
			t.Fatal("there is no call", what)
		}
	}
	// The other table is as ever.
	wantAll(t, "the other table", x, "n", api.OK, row("k", "v"))
	wantGet(t, "the other table", x, "n", text("k"), row("k", "v"), api.OK)
}

// allCalls is all of them.
func allCalls(but ...string) []string {
	var l []string
	for what := range calls(nil) {
		if !slices.Contains(but, what) {
			l = append(l, what)
		}
	}
	return l
}

func TestSchemasOfOthers(t *testing.T) {
	for _, s := range []string{
		"", "\x00", "\x03", "\x03\x01\x02\x01", "\x03\x01\x02\x01\x01", "\x03\x01\x02\x01\x01\x02\x00", "\x03\x01\x02\x03\x01\x02", "\x03\x01\x02\x00\x01\x02",
		"\x03\x01\x02\x01\x03\x02", "\x03\x01\x02\x01\x01\x03", "\x03\x01\x02\x01\x01\x01", "\x00\x00\x00", "\x05\x01\x01\x01\x01\x01\x00\x00", strings.Repeat("\xff", 40), "junk",
	} {
		x := laid(t)
		lay(t, x, "_s", "t", s)
		wantCorrupt(t, x, allCalls()...)
		wantNames(t, "a schema that is none", x, "n", "t")
	}
}

// TestSchemaOfAnotherTable: bytes that are a schema, but not this table's.
func TestSchemaOfAnotherTable(t *testing.T) {
	x := laid(t)
	lay(t, x, "_s", "t", schemaOf(of("tti", 1, 2)))
	wantSound(t, "another kind", x, false)
	wantGet(t, "another kind", x, "t", num(1), nil, api.ErrKind)
	wantGet(t, "another kind", x, "t", text("1"), nil, api.OK)
	wantAll(t, "another kind", x, "t", api.ErrCorrupt)
	wantBy(t, "another kind", x, "t", text("a"), nil, api.ErrCorrupt)
	wantLook(t, "another kind", x, "t", 7, api.ErrCorrupt)
	lay(t, x, "_s", "t", schemaOf(of("iti", 0, 2)))
	wantSound(t, "without Unique", x, false)
	wantAll(t, "without Unique", x, "t", api.OK, rowsThere...)
	lay(t, x, "_s", "t", schemaOf(of("iti", 1, 0)))
	wantSound(t, "without Index", x, false)
	lay(t, x, "_s", "n", schemaOf(of("tt", 1, 0)))
	wantBy(t, "with Unique", x, "n", text("v"), nil, api.ErrCorrupt)
	want(t, "with Unique", store.Put(x, "n", row("l", "w")), api.ErrCorrupt)
	wantAll(t, "with Unique", x, "n", api.OK, row("k", "v"))
}

// TestNamesOfOthers: keys of the table of schemas that are no names.
func TestNamesOfOthers(t *testing.T) {
	for _, name := range []string{"T", "abcdefg", "_s", "t_", "a1", "\x00", "é"} {
		x := laid(t)
		lay(t, x, "_s", name, schemaOf(of("i", 0, 0)))
		wantSound(t, name, x, false)
		wantNames(t, name, x, "n", "t")
		wantNoTable(t, name, x, name)
		want(t, name, store.Create(x, name, of("i", 0, 0)), api.ErrArg)
		wantAll(t, name, x, "t", api.OK, rowsThere...)
	}
}

// TestNoRows: the table of rows isn't there, though its schema is.
func TestNoRows(t *testing.T) {
	x := laid(t)
	must(t, "kill", x.Kill("t_r"))
	wantCorrupt(t, x, allCalls("create", "describe", "by d", "look 9")...)
	x = laid(t)
	lay(t, x, "_s", "u", schemaOf(of("it", 1, 0)))
	wantSound(t, "a schema without tables", x, false)
	wantNames(t, "a schema without tables", x, "n", "t", "u")
	wantGet(t, "a schema without tables", x, "u", num(1), nil, api.ErrCorrupt)
	wantRemove(t, "a schema without tables", x, "u", num(1), false, api.ErrCorrupt)
	wantAll(t, "a schema without tables", x, "u", api.ErrCorrupt)
	wantBy(t, "a schema without tables", x, "u", text("a"), nil, api.ErrCorrupt)
	want(t, "a schema without tables", store.Put(x, "u", row(1, "a")), api.ErrCorrupt)
	want(t, "a schema without tables", store.Create(x, "u", of("it", 1, 0)), api.ErrTwice)
}

// TestRestsOfOthers: a row whose rest is none.
func TestRestsOfOthers(t *testing.T) {
	one := []string{"all", "get 1", "remove 1", "by a", "look 7", "put 1 a 7", "put 1 b 7", "put 1 d 7", "put 4 a 9"}
	good := restOf(rowsThere[0])
	for _, rest := range []string{"", "a", good + "\x00", good[:len(good)-1], "\x0belevenbytes" + eight(7), "\xff" + good[1:]} {
		x := laid(t)
		lay(t, x, "t_r", key(1), rest)
		wantCorrupt(t, x, one...)
	}
	// Bytes that are a row's, but not of the value and the number that it is found by.
	x := laid(t)
	lay(t, x, "t_r", key(1), restOf(row(1, "d", 7)))
	wantCorrupt(t, x, "remove 1", "by a", "put 1 a 7", "put 1 b 7", "put 1 d 7", "put 4 a 9")
	x = laid(t)
	lay(t, x, "t_r", key(1), restOf(row(1, "a", 9)))
	wantCorrupt(t, x, "remove 1", "look 7", "put 1 a 7", "put 1 b 7", "put 1 d 7")
}

// TestRowsOfOthers: pairs among the rows that nobody put there.
func TestRowsOfOthers(t *testing.T) {
	for _, k := range []string{
		"k", "\x00", "\x01", "\x03", key(9) + "\x00", key(9)[:8], key(8) + key(9), keyOf(text("a")), keyOf(text("elevenbytes")), "\xff",
	} {
		x := laid(t)
		lay(t, x, "t_r", k, restOf(row(9, "z", 9)))
		wantCorrupt(t, x, "all")
	}
	// One that is a row's, but isn't found by its value and its number: only who comes to it tells.
	x := laid(t)
	lay(t, x, "t_r", key(4), restOf(row(4, "z", 7)))
	wantCorrupt(t, x, "remove 4", "put 4 d 9", "put 4 a 9")
	// One whose value another one has.
	lay(t, x, "t_r", key(4), restOf(row(4, "a", 9)))
	lay(t, x, "t_i", key(9)+key(4), "")
	wantCorrupt(t, x, "remove 4", "put 4 d 9", "put 4 a 9")
	// One that isn't there any more.
	x = laid(t)
	cut(t, x, "t_r", key(1))
	wantCorrupt(t, x, "by a", "look 7", "put 1 a 7", "put 4 a 9", "put 1 d 7")
}

// TestUniqueOfOthers: the values of the column Unique aren't as the rows have them.
func TestUniqueOfOthers(t *testing.T) {
	a, b, d := keyOf(text("a")), keyOf(text("b")), keyOf(text("d"))
	x := laid(t)
	must(t, "kill", x.Kill("t_u"))
	wantCorrupt(t, x, allCalls("create", "describe", "all", "get 1", "get 2", "get 3", "get 4", "remove 4", "look 7", "look 8", "look 9")...)

	for _, value := range []string{"", "junk", key(2), key(4), key(1) + "\x00", key(1)[:8], strings.Repeat("k", 40)} {
		x = laid(t)
		lay(t, x, "t_u", a, value)
		wantCorrupt(t, x, "by a", "remove 1", "put 1 a 7", "put 1 b 7", "put 1 d 7", "put 4 a 9")
	}
	x = laid(t)
	cut(t, x, "t_u", a)
	k := x.Save()
	// Nobody has the value, as far as can be told without a look at all rows.
	if r, there, e := store.By(x, "t", text("a")); r != nil || there || e != api.OK {
		t.Error("by a:", r, there, e)
	}
	want(t, "put 4 a 9", store.Put(x, "t", row(4, "a", 9)), api.OK)
	must(t, "back", x.Back(k))
	still(t, x, "put 1", func() {
		for _, r := range []api.Row{row(1, "a", 7), row(1, "d", 7), row(1, "a", 8)} {
			want(t, fmt.Sprint(r), store.Put(x, "t", r), api.ErrCorrupt)
		}
		wantRemove(t, "remove 1", x, "t", num(1), false, api.ErrCorrupt)
	})
	wantSound(t, "a value that nobody finds", x, false)

	for _, value := range []string{key(1), key(2), key(4), ""} {
		x = laid(t)
		lay(t, x, "t_u", d, value)
		wantCorrupt(t, x, "by d", "put 4 d 9", "put 1 d 7")
	}
	for _, k := range []string{"k", "\x00", "\x01", key(7), a + b, keyOf(text("elevenbytes"))} {
		x = laid(t)
		lay(t, x, "t_u", k, key(1))
		wantCorrupt(t, x)
	}
}

// TestIndexOfOthers: the numbers of the column Index aren't as the rows have them.
func TestIndexOfOthers(t *testing.T) {
	x := laid(t)
	must(t, "kill", x.Kill("t_i"))
	wantCorrupt(t, x, "look 7", "look 8", "look 9", "put 4 d 9", "put 1 a 7", "put 1 b 7", "put 1 d 7", "put 2 b 8", "remove 1", "remove 2", "remove 3")

	x = laid(t)
	cut(t, x, "t_i", key(7)+key(1))
	wantCorrupt(t, x, "put 1 a 7", "put 1 b 7", "put 1 d 7", "remove 1")
	wantLook(t, "one isn't found", x, "t", 7, api.OK, rowsThere[1])

	for _, value := range []string{"x", "\x00", key(1)} {
		x = laid(t)
		lay(t, x, "t_i", key(7)+key(1), value)
		wantCorrupt(t, x, "look 7", "put 1 a 7", "put 1 b 7", "put 1 d 7", "remove 1")
	}
	for _, k := range []string{"", "k", key(3), key(4), key(1) + "\x00", key(1)[:8], key(1) + key(1)} {
		x = laid(t)
		lay(t, x, "t_i", key(7)+k, "")
		wantCorrupt(t, x, "look 7")
	}
	for _, k := range []string{"k", key(8)[:8], keyOf(text("a")) + key(1), "\xff", key(6) + key(1), key(math.MinInt64)} {
		x = laid(t)
		lay(t, x, "t_i", k, "")
		wantCorrupt(t, x)
	}
	x = laid(t)
	lay(t, x, "t_i", key(9)+key(4), "")
	wantCorrupt(t, x, "look 9", "put 4 d 9")
	x = laid(t)
	lay(t, x, "t_i", key(8)+key(2), "")
	wantCorrupt(t, x, "look 8", "put 2 b 8")
}

// TestTablesOfOthers: tables of bytes that are no table's of rows.
func TestTablesOfOthers(t *testing.T) {
	for _, name := range []string{"zz", "_", "u_r", "t", "n_u", "n_i", "t_x", "_r", "_u", "_i", "s_s"} {
		for _, pairs := range []bool{false, true} {
			x := laid(t)
			must(t, "make", x.Make(name))
			if pairs {
				lay(t, x, name, "k", "v")
			}
			wantCorrupt(t, x)
			wantNames(t, name, x, "n", "t")
			must(t, "kill", x.Kill(name))
			wantSound(t, name, x, true)
		}
	}
	// There are some, but no schemas.
	x := start(t, 8)
	must(t, "make", x.Make("t_r"))
	wantSound(t, "no schemas", x, false)
	wantNoTable(t, "no schemas", x, "t")
	wantNames(t, "no schemas", x)
	// There is only the one of schemas.
	x = start(t, 8)
	must(t, "make", x.Make("_s"))
	wantSound(t, "only schemas", x, true)
	wantNoTable(t, "only schemas", x, "t")
	mustCreate(t, x, "t", of("it", 1, 0))
	mustPut(t, x, "t", row(1, "a"))
	wantSound(t, "only schemas", x, true)
}

// TestTablesInTheWay: a table of rows can't be created where one of its tables of bytes is there already.
func TestTablesInTheWay(t *testing.T) {
	for _, name := range []string{"u_r", "u_u", "u_i"} {
		for _, schemas := range []bool{false, true} {
			x := start(t, 20)
			if schemas {
				x = laid(t)
			}
			must(t, "make", x.Make(name))
			lay(t, x, name, "k", "v")
			still(t, x, name, func() { want(t, name, store.Create(x, "u", of("iti", 1, 2)), api.ErrCorrupt) })
			if name == "u_r" {
				continue
			}
			want(t, name, store.Create(x, "u", of("iti", 0, 0)), api.OK)
		}
	}
}

// tampered is a transaction on a base where the pages of a table's tree aren't what they were. The table m has so many rows that its trees have inner nodes.
func tampered(t *testing.T, name string, tamper func(p *pager.Pager, root int)) *base.Tx {
	t.Helper()
	d := device.New(undo.Need(60))
	x := begun(t, opened(t, d, 60))
	mustCreate(t, x, "t", of("iti", 1, 2))
	mustPut(t, x, "t", rowsThere...)
	mustCreate(t, x, "n", of("tt", 0, 0))
	mustPut(t, x, "n", row("k", "v"))
	mustCreate(t, x, "m", of("iti", 1, 2))
	for i := range 40 {
		mustPut(t, x, "m", row(i, fmt.Sprint("u", i), i))
	}
	must(t, "commit", x.Commit())
	p, e := pager.Open(d, 60)
	must(t, "open of a pager", e)
	head, e := p.Read(0)
	must(t, "read", e)
	i := strings.Index(head, name)
	tamper(p, int(head[i+len(name)])<<8|int(head[i+len(name)+1]))
	return begun(t, opened(t, d, 60))
}

// turn makes a page one that is used, or the other way.
func turn(t *testing.T, p *pager.Pager, pages ...int) {
	t.Helper()
	s, e := p.Read(0)
	must(t, "read", e)
	b := []byte(s)
	for _, n := range pages {
		b[n/8] ^= 1 << (n % 8)
	}
	must(t, "commit of a pager", p.Commit([]pager.Change{{Page: 0, Data: string(b)}}))
}

// write lays a node on a page.
func write(t *testing.T, p *pager.Pager, page int, n api.Node) {
	t.Helper()
	s, e := node.Write(n)
	must(t, "write of a node", e)
	must(t, "commit of a pager", p.Commit([]pager.Change{{Page: page, Data: s}}))
}

// TestPagesOfOthers: trees that can't be read, or have a page that isn't used.
func TestPagesOfOthers(t *testing.T) {
	spoil := func(p *pager.Pager, root int) {
		must(t, "spoil", p.Commit([]pager.Change{{Page: root, Data: strings.Repeat("\x07", api.Page)}}))
	}
	lose := func(p *pager.Pager, root int) { turn(t, p, root) }
	for what, tamper := range map[string]func(*pager.Pager, int){"spoilt": spoil, "lost": lose} {
		t.Run(what, func(t *testing.T) {
			x := tampered(t, "t_r", tamper)
			wantCorrupt(t, x, allCalls("create", "describe", "by d", "look 9")...)
			x = tampered(t, "t_u", tamper)
			wantCorrupt(t, x, allCalls("create", "describe", "all", "get 1", "get 2", "get 3", "get 4", "remove 4", "look 7", "look 8", "look 9")...)
			x = tampered(t, "t_i", tamper)
			wantCorrupt(t, x, "look 7", "look 8", "look 9", "put 4 d 9", "put 1 a 7", "put 1 b 7", "put 1 d 7", "put 2 b 8", "remove 1", "remove 2", "remove 3")

			x = tampered(t, "_s", tamper)
			wantSound(t, what, x, false)
			wantNames(t, what, x)
			for name, call := range calls(x) {
				if _, e := call(); e != api.ErrCorrupt {
					t.Errorf("%s: %d", name, e)
				}
			}
			// What is wrong with the arguments is told without a look at schemas.
			want(t, what, store.Create(x, "T", of("i", 0, 0)), api.ErrArg)
			want(t, what, store.Create(x, "t", api.Schema{}), api.ErrField)
			wantNoTable(t, what, x, "T")
		})
	}
}

// TestTreesOfOthers: trees that can be read, but that aren't sound.
func TestTreesOfOthers(t *testing.T) {
	leaf := api.Node{Leaf: true, Pairs: []api.Pair{{Key: keyOf(text("k")), Value: "\x01v"}}}
	x := tampered(t, "n_r", func(p *pager.Pager, root int) {
		turn(t, p, 58)
		write(t, p, 58, leaf)
		write(t, p, root, api.Node{Keys: []string{keyOf(text("k"))}, Kids: []int{58, 58}})
	})
	wantSound(t, "a row twice", x, false)
	wantAll(t, "a row twice", x, "n", api.OK, row("k", "v"), row("k", "v"))
	x = tampered(t, "n_r", func(p *pager.Pager, root int) {
		turn(t, p, 57, 58)
		write(t, p, 57, leaf)
		write(t, p, 58, api.Node{Leaf: true})
		write(t, p, root, api.Node{Keys: []string{keyOf(text("a"))}, Kids: []int{57, 58}})
	})
	wantSound(t, "a row that isn't found", x, false)
	wantAll(t, "a row that isn't found", x, "n", api.OK, row("k", "v"))
	wantGet(t, "a row that isn't found", x, "n", text("k"), nil, api.OK)

	// A page too many is nothing that tables of rows have to do with: layer 11 tells of it.
	x = tampered(t, "n_r", func(p *pager.Pager, root int) { turn(t, p, 58) })
	if x.Sound() {
		t.Error("a page too many: layer 11 finds it sound")
	}
	wantSound(t, "a page too many", x, true)
}

// TestCorruptInTheMidst: a row is removed, or moves, whose pairs in some tables of bytes can be taken out, but not in the last one, since the leaf beside can't be read.
func TestCorruptInTheMidst(t *testing.T) {
	x := tampered(t, "m_i", func(p *pager.Pager, root int) {
		s, e := p.Read(root)
		must(t, "read", e)
		n, e := node.Read(s)
		must(t, "read of a node", e)
		if len(n.Kids) < 2 {
			t.Fatal("the tree is too flat")
		}
		must(t, "spoil", p.Commit([]pager.Change{{Page: n.Kids[1], Data: strings.Repeat("\x07", api.Page)}}))
	})
	corrupt := false
	for i := range int64(40) {
		was, k := seen(x), x.Save()
		there, e := store.Remove(x, "m", num(i))
		if there && e == api.OK {
			continue
		}
		want(t, "remove", e, api.ErrCorrupt)
		if there || seen(x) != was {
			t.Error("something has changed:", there)
		}
		if _, there, e := x.Get("m_i", key(i)+key(i)); !there || e != api.OK {
			t.Fatal("it isn't taking the pair out that can't be done:", there, e)
		}
		// The tables of bytes themselves would have let the first pairs go.
		cut(t, x, "m_r", key(i))
		cut(t, x, "m_u", keyOf(text(fmt.Sprint("u", i))))
		must(t, "back", x.Back(k))
		still(t, x, "put", func() {
			want(t, "put", store.Put(x, "m", row(num(i), "w", 100)), api.ErrCorrupt)
		})
		corrupt = true
		break
	}
	if !corrupt {
		t.Error("all rows were removed")
	}
}

// TestSoundKeepsAll: who asks whether all is sound changes nothing, whatever is answered.
func TestSoundKeepsAll(t *testing.T) {
	x := laid(t)
	still(t, x, "sound", func() { wantSound(t, "laid", x, true) })
	lay(t, x, "t_r", "k", "v")
	still(t, x, "sound", func() { wantSound(t, "tampered", x, false) })
}
