package rows_test

import (
	"bytes"
	"cmp"
	"math"
	"slices"
	"strings"
	"testing"

	"factotum/api"
	"factotum/keys"
	"factotum/rows"
)

func num(n int64) api.Value { return api.Value{Kind: api.Int, N: n} }

func text(s string) api.Value { return api.Value{Kind: api.Text, S: s} }

func row(l ...api.Value) api.Row { return l }

// columns is a schema of these kinds alone.
func columns(kinds ...api.Kind) api.Schema { return api.Schema{Kinds: kinds} }

func with(s api.Schema, unique, index int) api.Schema {
	s.Unique, s.Index = unique, index
	return s
}

const (
	kindInt  = api.Int
	kindText = api.Text
)

func sameSchema(a, b api.Schema) bool {
	return slices.Equal(a.Kinds, b.Kinds) && a.Unique == b.Unique && a.Index == b.Index
}

// right are schemas that may be, with their bytes.
var right = []struct {
	s     api.Schema
	bytes string
}{
	{columns(kindInt), "\x01\x01\x00\x00"},
	{columns(kindText), "\x01\x02\x00\x00"},
	{columns(kindInt, kindText), "\x02\x01\x02\x00\x00"},
	{with(columns(kindInt, kindText), 1, 0), "\x02\x01\x02\x01\x00"},
	{with(columns(kindText, kindInt), 1, 0), "\x02\x02\x01\x01\x00"},
	{with(columns(kindText, kindInt), 0, 1), "\x02\x02\x01\x00\x01"},
	{with(columns(kindText, kindInt), 1, 1), "\x02\x02\x01\x01\x01"},
	{with(columns(kindText, kindText, kindInt), 1, 2), "\x03\x02\x02\x01\x01\x02"},
	{columns(kindInt, kindInt, kindInt, kindInt), "\x04\x01\x01\x01\x01\x00\x00"},
	{with(columns(kindText, kindText, kindText, kindText), 3, 0), "\x04\x02\x02\x02\x02\x03\x00"},
	{with(columns(kindText, kindText, kindText, kindInt), 2, 3), "\x04\x02\x02\x02\x01\x02\x03"},
}

// wrong are schemas that may not be, of each sort.
var wrong = []api.Schema{
	{},
	{Kinds: []api.Kind{}},
	with(columns(), 0, 1),
	columns(0),
	columns(3),
	columns(-1),
	columns(257),
	columns(258),
	columns(math.MinInt),
	columns(math.MaxInt),
	columns(kindInt, 0),
	columns(kindInt, kindText, 3),
	columns(kindInt, kindInt, kindInt, 3),
	columns(0, kindInt),
	columns(kindInt, kindInt, kindInt, kindInt, kindInt),
	columns(kindText, kindText, kindText, kindText, kindText),
	{Kinds: make([]api.Kind, 5)},
	{Kinds: slices.Repeat([]api.Kind{kindInt}, 257)},
	with(columns(kindInt), 1, 0),
	with(columns(kindInt), -1, 0),
	with(columns(kindInt), 0, 1),
	with(columns(kindInt), 0, -1),
	with(columns(kindInt, kindInt), 2, 0),
	with(columns(kindInt, kindInt), 0, 2),
	with(columns(kindInt, kindInt), -1, 0),
	with(columns(kindInt, kindInt), 0, -1),
	with(columns(kindInt, kindInt), 257, 0),
	with(columns(kindInt, kindInt), 0, 257),
	with(columns(kindInt, kindInt), 256, 0),
	with(columns(kindInt, kindInt), 0, 256),
	with(columns(kindInt, kindInt), math.MaxInt, 0),
	with(columns(kindInt, kindInt), math.MinInt, 0),
	with(columns(kindInt, kindInt), 0, math.MaxInt),
	with(columns(kindInt, kindInt), 0, math.MinInt),
	with(columns(kindInt, kindText), 0, 1),
	with(columns(kindText, kindText), 0, 1),
	with(columns(kindInt, kindInt, kindText), 1, 2),
	with(columns(kindInt, kindInt, kindInt, kindText), 0, 3),
	with(columns(kindInt, kindInt, kindInt, kindInt), 4, 0),
	with(columns(kindInt, kindInt, kindInt, kindInt), 0, 4),
}

// unfit are values that don't fit the kind, of each sort.
func unfit(k api.Kind) []api.Value {
	l := []api.Value{
		{},
		{N: 1},
		{S: "a"},
		{Kind: 3},
		{Kind: -1},
		{Kind: 257},
		{Kind: 258},
		{Kind: math.MaxInt},
		{Kind: math.MinInt},
		{Kind: kindInt, S: "a"},
		{Kind: kindInt, S: "\x00"},
		{Kind: kindInt, N: 1, S: "a"},
		{Kind: kindInt, S: strings.Repeat("a", api.MaxText+1)},
		{Kind: kindText, N: 1},
		{Kind: kindText, N: -1, S: "a"},
		{Kind: kindText, N: math.MinInt64, S: "a"},
		text(strings.Repeat("a", api.MaxText+1)),
		text(strings.Repeat("\x00", api.MaxText+1)),
		text(strings.Repeat("a", 255)),
		text(strings.Repeat("a", 256)),
		text(strings.Repeat("a", 1<<16)),
	}
	if k == kindInt {
		return append(l, text(""), text("a"))
	}
	return append(l, num(0), num(1), num(-1))
}

// fit are values that fit the kind, in order.
func fit(k api.Kind) []api.Value {
	if k == kindInt {
		return row(num(math.MinInt64), num(math.MinInt64+1), num(-256), num(-1), num(0), num(1), num(255), num(256), num(math.MaxInt64-1), num(math.MaxInt64))
	}
	return row(text(""), text("\x00"), text("\x00\x00"), text("\x00a"), text("\x00\xff"), text("\x01"), text("a"), text("a\x00"), text("a\x01"), text("aa"), text(strings.Repeat("b", api.MaxText-1)), text(strings.Repeat("b", api.MaxText)), text("\xff"), text(strings.Repeat("\xff", api.MaxText)))
}

// some is a row of the schema's that fits.
func some(s api.Schema) api.Row {
	var r api.Row
	for _, k := range s.Kinds {
		r = append(r, fit(k)[7])
	}
	return r
}

// write is the key and the rest of a row that fits.
func write(t *testing.T, s api.Schema, r api.Row) (string, string) {
	t.Helper()
	key, rest, e := rows.Write(s, r)
	if e != api.OK {
		t.Fatalf("Write of %v: %d", r, e)
	}
	return key, rest
}

func TestRight(t *testing.T) {
	for _, x := range right {
		if !rows.Right(x.s) {
			t.Errorf("%v may be", x.s)
		}
	}
	for _, s := range wrong {
		if rows.Right(s) {
			t.Errorf("%v may not be", s)
		}
	}
}

// mayBe is a second reading of what schemas may be.
func mayBe(s api.Schema) bool {
	n := len(s.Kinds)
	for _, k := range s.Kinds {
		if k < 1 || k > 2 {
			return false
		}
	}
	named := func(c int) bool { return slices.Contains([]int{1, 2, 3}, c) && c < n }
	return slices.Contains([]int{1, 2, 3, 4}, n) && (s.Unique == 0 || named(s.Unique)) && (s.Index == 0 || named(s.Index) && s.Kinds[s.Index] == 1)
}

// allKinds goes through all lists of up to 5 kinds of 0 to 3.
func allKinds(each func(kinds []api.Kind)) {
	for n := range 6 {
		for c := range 1 << (2 * n) {
			kinds := make([]api.Kind, n)
			for i := range kinds {
				kinds[i] = api.Kind(c >> (2 * i) & 3)
			}
			each(kinds)
		}
	}
}

func TestSchemasAllAround(t *testing.T) {
	allKinds(func(kinds []api.Kind) {
		for unique := -2; unique < 7; unique++ {
			for index := -2; index < 7; index++ {
				s := api.Schema{Kinds: kinds, Unique: unique, Index: index}
				want := mayBe(s)
				if rows.Right(s) != want {
					t.Fatalf("Right of %v isn't %v", s, want)
				}
				b, e := rows.Schema(s)
				if !want {
					if b != "" || e != api.ErrField {
						t.Fatalf("Schema of %v: %x, %d", s, b, e)
					}
					continue
				}
				if m, f := rows.Unschema(b); e != api.OK || f != api.OK || !sameSchema(m, s) {
					t.Fatalf("%v: %x, %d, then %v, %d", s, b, e, m, f)
				}
			}
		}
	})
}

func TestSchemaTellsBytes(t *testing.T) {
	for _, x := range right {
		if b, e := rows.Schema(x.s); e != api.OK || b != x.bytes {
			t.Errorf("%v: %x, %d, not %x", x.s, b, e, x.bytes)
		}
		if s, e := rows.Unschema(x.bytes); e != api.OK || !sameSchema(s, x.s) {
			t.Errorf("%x: %v, %d, not %v", x.bytes, s, e, x.s)
		}
	}
	for _, s := range wrong {
		if b, e := rows.Schema(s); b != "" || e != api.ErrField {
			t.Errorf("%v: %x, %d", s, b, e)
		}
	}
}

func refuseSchema(t *testing.T, b string) {
	t.Helper()
	if s, e := rows.Unschema(b); e != api.ErrCorrupt || !sameSchema(s, api.Schema{}) {
		t.Errorf("%x: %v, %d", b, s, e)
	}
}

func TestUnschemaRefusesBytes(t *testing.T) {
	for _, x := range right {
		for n := range len(x.bytes) {
			refuseSchema(t, x.bytes[:n])
		}
		refuseSchema(t, x.bytes+"\x00")
		refuseSchema(t, x.bytes+x.bytes)
	}
	for _, b := range []string{
		"\x00\x00\x00",
		"\x00",
		"\x01\x00\x00\x00",
		"\x01\x03\x00\x00",
		"\x01\xff\x00\x00",
		"\x01\x01\x01\x00",
		"\x01\x01\x00\x01",
		"\x01\x01\xff\x00",
		"\x01\x01\x00\xff",
		"\x02\x01\x02\x00\x01",
		"\x02\x01\x02\x02\x00",
		"\x02\x01\x01\x00\x02",
		"\x03\x01\x01\x00\x00",
		"\x05\x01\x01\x01\x01\x01\x00\x00",
		"\xff",
		"\xff" + strings.Repeat("\x01", 255) + "\x00\x00",
		strings.Repeat("\x01", 1<<16),
	} {
		refuseSchema(t, b)
	}
}

// Whatever bytes: they are read as a schema, if and only if that one's bytes are these.
func TestUnschemaOfAllBytes(t *testing.T) {
	told := map[string]int{}
	for n := range 7 {
		for c := range 1 << (3 * n) {
			b := make([]byte, n)
			for i := range b {
				b[i] = byte(c >> (3 * i) & 7)
			}
			s, e := rows.Unschema(string(b))
			if e != api.OK {
				refuseSchema(t, string(b))
				continue
			}
			told[string(b)]++
			if m, f := rows.Schema(s); f != api.OK || m != string(b) {
				t.Fatalf("%x: %v, whose bytes are %x, %d", b, s, m, f)
			}
		}
	}
	// Of one column 2; of two columns 4 lists of kinds, Unique 0 or 1, Index 0, or 1 of an Int; of three 8 lists.
	if want := 2 + 2*(2+1+2+1) + 3*8*2; len(told) != want {
		t.Errorf("%d schemas, not %d", len(told), want)
	}
}

func TestFits(t *testing.T) {
	for _, x := range right {
		s := x.s
		for i, k := range s.Kinds {
			for _, v := range fit(k) {
				r := some(s)
				r[i] = v
				if e := rows.Fits(s, r); e != api.OK {
					t.Errorf("%v of %v: %d", r, s, e)
				}
			}
		}
	}
}

// refuseRow holds what Fits and Write say of a row that doesn't fit.
func refuseRow(t *testing.T, s api.Schema, r api.Row, want api.Errno) {
	t.Helper()
	if e := rows.Fits(s, r); e != want {
		t.Errorf("Fits of %v and %v: %d, not %d", s, r, e, want)
	}
	if key, rest, e := rows.Write(s, r); key != "" || rest != "" || e != want {
		t.Errorf("Write of %v and %v: %x, %x, %d, not %d", s, r, key, rest, e, want)
	}
}

func TestRowsThatDontFit(t *testing.T) {
	for _, x := range right {
		s := x.s
		for i, k := range s.Kinds {
			for _, v := range unfit(k) {
				r := some(s)
				r[i] = v
				refuseRow(t, s, r, api.ErrKind)
			}
		}
	}
}

func TestRowsOfAnotherLength(t *testing.T) {
	for _, x := range right {
		s := x.s
		full := some(s)
		for n := range len(full) {
			refuseRow(t, s, full[:n], api.ErrIndex)
			// A value that doesn't fit would be told only of a row that is as long as the schema.
			refuseRow(t, s, make(api.Row, n), api.ErrIndex)
		}
		refuseRow(t, s, nil, api.ErrIndex)
		refuseRow(t, s, append(some(s), num(1)), api.ErrIndex)
		refuseRow(t, s, append(some(s), text("")), api.ErrIndex)
		refuseRow(t, s, make(api.Row, len(full)+1), api.ErrIndex)
		refuseRow(t, s, slices.Repeat(full, 300), api.ErrIndex)
	}
}

// A schema that may not be is told ahead of all that is wrong beside it.
func TestWrongSchemaIsToldFirst(t *testing.T) {
	for _, s := range wrong {
		for _, r := range []api.Row{nil, row(num(1)), row(text("a"), num(1)), make(api.Row, len(s.Kinds)), make(api.Row, len(s.Kinds)+1)} {
			refuseRow(t, s, r, api.ErrField)
		}
		for _, v := range []api.Value{{}, num(1), text("a"), {Kind: 3}} {
			if key, e := rows.Key(s, v); key != "" || e != api.ErrField {
				t.Errorf("Key of %v and %v: %x, %d", s, v, key, e)
			}
		}
		for _, key := range []string{"", "\x01", "\x02\x00\x01", "\x01\x80\x00\x00\x00\x00\x00\x00\x07"} {
			if r, e := rows.Read(s, key, key); len(r) != 0 || e != api.ErrField {
				t.Errorf("Read of %v and %x: %v, %d", s, key, r, e)
			}
		}
	}
}

func TestKey(t *testing.T) {
	for _, x := range right {
		k := x.s.Kinds[0]
		for _, v := range fit(k) {
			want, _ := keys.Write([]api.Value{v})
			if key, e := rows.Key(x.s, v); e != api.OK || key != want {
				t.Errorf("%v: %x, %d, not %x", v, key, e, want)
			}
		}
		for _, v := range unfit(k) {
			if key, e := rows.Key(x.s, v); key != "" || e != api.ErrKind {
				t.Errorf("%v: %x, %d", v, key, e)
			}
		}
	}
}

func TestWriteTellsBytes(t *testing.T) {
	for _, x := range []struct {
		s         api.Schema
		r         api.Row
		key, rest string
	}{
		{columns(kindInt, kindText), row(num(7), text("a")), "\x01\x80\x00\x00\x00\x00\x00\x00\x07", "\x01a"},
		{columns(kindInt), row(num(-1)), "\x01\x7f\xff\xff\xff\xff\xff\xff\xff", ""},
		{columns(kindText), row(text("")), "\x02\x00\x01", ""},
		{columns(kindText, kindText), row(text("\x00"), text("\x00")), "\x02\x00\xff\x00\x01", "\x01\x00"},
		{columns(kindText, kindText), row(text("a"), text("")), "\x02a\x00\x01", "\x00"},
		{columns(kindText, kindInt), row(text("0123456789"), num(-1)), "\x020123456789\x00\x01", "\xff\xff\xff\xff\xff\xff\xff\xff"},
		{columns(kindInt, kindInt), row(num(1), num(math.MinInt64)), "\x01\x80\x00\x00\x00\x00\x00\x00\x01", "\x80\x00\x00\x00\x00\x00\x00\x00"},
		{columns(kindInt, kindInt), row(num(1), num(math.MaxInt64)), "\x01\x80\x00\x00\x00\x00\x00\x00\x01", "\x7f\xff\xff\xff\xff\xff\xff\xff"},
		{with(columns(kindInt, kindText, kindInt, kindText), 3, 2), row(num(0), text("ab"), num(0x0102030405060708), text("0123456789")), "\x01\x80\x00\x00\x00\x00\x00\x00\x00", "\x02ab\x01\x02\x03\x04\x05\x06\x07\x08\x0a0123456789"},
	} {
		if key, rest := write(t, x.s, x.r); key != x.key || rest != x.rest {
			t.Errorf("%v: %x and %x, not %x and %x", x.r, key, rest, x.key, x.rest)
		}
		if r, e := rows.Read(x.s, x.key, x.rest); e != api.OK || !slices.Equal(r, x.r) {
			t.Errorf("%x and %x: %v, %d, not %v", x.key, x.rest, r, e, x.r)
		}
	}
}

func refuseBytes(t *testing.T, s api.Schema, key, rest string) {
	t.Helper()
	if r, e := rows.Read(s, key, rest); len(r) != 0 || e != api.ErrCorrupt {
		t.Errorf("%v: %x and %x: %v, %d", s, key, rest, r, e)
	}
}

func TestReadRefusesWhatIsCutOrGoesOn(t *testing.T) {
	for _, x := range right {
		key, rest := write(t, x.s, some(x.s))
		for n := range len(key) {
			refuseBytes(t, x.s, key[:n], rest)
		}
		for n := range len(rest) {
			refuseBytes(t, x.s, key, rest[:n])
		}
		for _, more := range []string{"\x00", "a", "\x00\x01", key, "\x02\x00\x01", "\x01\x80\x00\x00\x00\x00\x00\x00\x00"} {
			refuseBytes(t, x.s, key+more, rest)
			refuseBytes(t, x.s, key, rest+more)
			refuseBytes(t, x.s, more+key, rest)
		}
	}
}

func TestReadRefusesKeys(t *testing.T) {
	ints, texts := columns(kindInt, kindText), columns(kindText, kindText)
	const rest = "\x01a"
	for _, key := range []string{
		"",
		"\x00\x80\x00\x00\x00\x00\x00\x00\x00",
		"\x03\x80\x00\x00\x00\x00\x00\x00\x00",
		"\x02a\x00\x02",
		"\x02a\x00\xff",
		"\x02" + strings.Repeat("a", api.MaxText+1) + "\x00\x01",
		"\x02" + strings.Repeat("\x00\xff", api.MaxText+1) + "\x00\x01",
		"\x02" + strings.Repeat("a", 1<<16) + "\x00\x01",
		strings.Repeat("\x02\x00\x01", 1<<16),
	} {
		refuseBytes(t, ints, key, rest)
		refuseBytes(t, texts, key, rest)
	}
	refuseBytes(t, ints, "\x02a\x00\x01", rest)
	refuseBytes(t, texts, "\x01\x80\x00\x00\x00\x00\x00\x00\x00", rest)
	// The rest's value at the key's end is none of the rest.
	refuseBytes(t, texts, "\x02a\x00\x01\x02a\x00\x01", "")
	refuseBytes(t, ints, "\x01\x80\x00\x00\x00\x00\x00\x00\x00\x02a\x00\x01", "")
}

func TestReadRefusesRests(t *testing.T) {
	const key = "\x02a\x00\x01"
	long := strings.Repeat("a", 300)
	texts := columns(kindText, kindText)
	for _, rest := range []string{
		"",
		"\x01",
		"\x02a",
		"\x0b" + long[:11],
		"\xff" + long[:255],
		"\x0b",
		"\x0a" + long[:11],
		"\x0a" + long[:9],
		"\x01ab",
		"\x00\x00",
		long,
	} {
		refuseBytes(t, texts, key, rest)
	}
	full := "\x0a" + long[:10]
	if r, e := rows.Read(texts, key, full); e != api.OK || !slices.Equal(r, row(text("a"), text(long[:10]))) {
		t.Errorf("%v, %d", r, e)
	}
	refuseBytes(t, columns(kindText, kindInt), key, "\x01a")
	refuseBytes(t, columns(kindText, kindInt, kindText), key, "\x01a\x00\x00\x00\x00\x00\x00\x00\x01")
	refuseBytes(t, columns(kindText), key, "\x00")
}

// draws are numbers that look like any, and are the same each time.
type draws uint64

func (d *draws) next() uint64 {
	*d ^= *d << 13
	*d ^= *d >> 7
	*d ^= *d << 17
	return uint64(*d)
}

func (d *draws) below(n int) int { return int(d.next() % uint64(n)) }

func (d *draws) value(k api.Kind) api.Value {
	if d.below(3) == 0 {
		l := fit(k)
		return l[d.below(len(l))]
	}
	if k == kindInt {
		return num(int64(d.next()))
	}
	b := make([]byte, d.below(api.MaxText+1))
	for i := range b {
		b[i] = []byte{0, 1, 2, 'a', 254, 255}[d.below(6)]
	}
	return text(string(b))
}

func (d *draws) schema() api.Schema {
	return right[d.below(len(right))].s
}

func (d *draws) row(s api.Schema) api.Row {
	var r api.Row
	for _, k := range s.Kinds {
		r = append(r, d.value(k))
	}
	return r
}

func TestWhatIsWrittenIsReadAgain(t *testing.T) {
	d := draws(1)
	for range 20000 {
		s := d.schema()
		r := d.row(s)
		key, rest := write(t, s, r)
		if m, e := rows.Read(s, key, rest); e != api.OK || !slices.Equal(m, r) {
			t.Fatalf("%v: %v, %d", r, m, e)
		}
		if k, e := rows.Key(s, r[0]); e != api.OK || k != key {
			t.Fatalf("%v: %x, %d, not %x", r, k, e, key)
		}
	}
}

// Whatever a key and a rest are: they are read as a row, if and only if that one is written so.
func TestReadOfChangedBytes(t *testing.T) {
	d := draws(2)
	read := 0
	for range 60000 {
		s := d.schema()
		key, rest := write(t, s, d.row(s))
		key, rest = d.change(key), d.change(rest)
		r, e := rows.Read(s, key, rest)
		if e != api.OK {
			refuseBytes(t, s, key, rest)
			if m, ok := readAgain(s, key, rest); ok {
				t.Fatalf("%v: %x and %x are %v", s, key, rest, m)
			}
			continue
		}
		read++
		if k, m, e := rows.Write(s, r); e != api.OK || k != key || m != rest {
			t.Fatalf("%x and %x: %v, which is %x and %x, %d", key, rest, r, k, m, e)
		}
	}
	if read < 1000 || read > 59000 {
		t.Errorf("%d of the changed bytes were rows", read)
	}
}

// change changes one byte, takes one away or puts one in, or leaves all as it is.
func (d *draws) change(s string) string {
	b := []byte(s)
	c := []byte{0, 1, 2, 10, 11, 254, 255}[d.below(7)]
	i := d.below(len(b) + 1)
	switch d.below(6) {
	case 0:
		b = slices.Insert(b, i, c)
	case 1:
		if i < len(b) {
			b[i] = c
		}
	case 2:
		if i < len(b) {
			b = slices.Delete(b, i, i+1)
		}
	}
	return string(b)
}

// readAgain is a second reading of the chapter, from the bytes alone.
func readAgain(s api.Schema, key, rest string) (api.Row, bool) {
	var r api.Row
	if s.Kinds[0] == kindInt {
		if len(key) != 9 || key[0] != 1 {
			return nil, false
		}
		r = row(num(bigEnd(key[1:]) ^ math.MinInt64))
	} else {
		if len(key) < 3 || key[0] != 2 || key[len(key)-2:] != "\x00\x01" {
			return nil, false
		}
		inner := key[1 : len(key)-2]
		plain := strings.ReplaceAll(inner, "\x00\xff", "\x00")
		if strings.ReplaceAll(plain, "\x00", "\x00\xff") != inner || len(plain) > 10 {
			return nil, false
		}
		r = row(text(plain))
	}
	for _, k := range s.Kinds[1:] {
		size := 8
		if k == kindText {
			if len(rest) == 0 || rest[0] > 10 {
				return nil, false
			}
			size = int(rest[0])
			rest = rest[1:]
		}
		if len(rest) < size {
			return nil, false
		}
		if k == kindInt {
			r = append(r, num(bigEnd(rest[:size])))
		} else {
			r = append(r, text(rest[:size]))
		}
		rest = rest[size:]
	}
	return r, rest == ""
}

func bigEnd(s string) int64 {
	var n int64
	for i := range len(s) {
		n = n*256 + int64(s[i])
	}
	return n
}

func sign(n int) int { return max(-1, min(1, n)) }

func TestKeysAreOrderedAsTheirValuesAre(t *testing.T) {
	for _, k := range []api.Kind{kindInt, kindText} {
		s := columns(k)
		l := fit(k)
		for i, v := range l {
			for j, w := range l {
				a, _ := rows.Key(s, v)
				b, _ := rows.Key(s, w)
				if strings.Compare(a, b) != cmp.Compare(i, j) {
					t.Errorf("%v and %v: %x and %x", v, w, a, b)
				}
			}
		}
	}
}

func TestKeysOfDrawnRowsAreOrdered(t *testing.T) {
	d := draws(3)
	for range 20000 {
		s := d.schema()
		r, m := d.row(s), d.row(s)
		a, _ := write(t, s, r)
		b, _ := write(t, s, m)
		want := cmp.Or(cmp.Compare(r[0].N, m[0].N), bytes.Compare([]byte(r[0].S), []byte(m[0].S)))
		if strings.Compare(a, b) != sign(want) || keys.Compare(r[:1], m[:1]) != sign(want) {
			t.Fatalf("%v and %v: %x and %x", r, m, a, b)
		}
	}
}

// Nothing that is handed in is changed, and what is answered is the caller's own.
func TestMemory(t *testing.T) {
	s := with(columns(kindText, kindInt, kindText, kindInt), 2, 3)
	kinds := slices.Clone(s.Kinds)
	r := row(text("a"), num(1), text("b"), num(2))
	kept := slices.Clone(r)
	key, rest := write(t, s, r)
	b, _ := rows.Schema(s)
	for range 2 {
		m, e := rows.Read(s, key, rest)
		if e != api.OK || !slices.Equal(m, kept) {
			t.Fatalf("%v, %d", m, e)
		}
		m[0], m[3] = num(9), num(9)
		u, e := rows.Unschema(b)
		if e != api.OK || !slices.Equal(u.Kinds, kinds) {
			t.Fatalf("%v, %d", u, e)
		}
		u.Kinds[0] = 9
	}
	if !slices.Equal(r, kept) || !slices.Equal(s.Kinds, kinds) {
		t.Error("what was handed in is changed")
	}
}

// W0: whatever the arguments, each call ends.
func TestNoCallPanics(t *testing.T) {
	schemas := slices.Clone(wrong)
	for _, x := range right {
		schemas = append(schemas, x.s)
	}
	values := slices.Concat(unfit(kindInt), unfit(kindText), fit(kindInt), fit(kindText))
	d := draws(4)
	for range 20000 {
		s := schemas[d.below(len(schemas))]
		var r api.Row
		for range d.below(6) {
			r = append(r, values[d.below(len(values))])
		}
		b := make([]byte, d.below(24))
		for i := range b {
			b[i] = byte(d.next() >> (8 * d.below(8)) % uint64(1+d.below(255)))
		}
		at := d.below(len(b) + 1)
		rows.Right(s)
		rows.Fits(s, r)
		rows.Key(s, values[d.below(len(values))])
		rows.Write(s, r)
		rows.Read(s, string(b[:at]), string(b[at:]))
		rows.Schema(s)
		rows.Unschema(string(b))
	}
}
