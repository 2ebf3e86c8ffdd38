package store

import (
	"cmp"
	"slices"
	"strings"

	"factotum/api"
	"factotum/base"
	"factotum/keys"
	"factotum/rows"
)

const (
	// schemas is the table of bytes with the schemas of all tables of rows.
	schemas = "_s"
	// These stand behind a table's name in those of its tables of bytes.
	rowsOf   = "_r"
	uniqueOf = "_u"
	indexOf  = "_i"
	// maxName is how many letters a table's name has at most.
	maxName = 6
)

// table is a table of rows, in a transaction.
type table struct {
	t      *base.Tx
	name   string
	schema api.Schema
}

// place is one of the pairs that a row is, and in which table of bytes it lies.
type place struct {
	table, key, value string
}

// nameMayBe says whether a table of rows may have the name.
func nameMayBe(name string) bool {
	if len(name) < 1 || len(name) > maxName {
		return false
	}
	for _, letter := range name {
		if letter < 'a' || letter > 'z' {
			return false
		}
	}
	return true
}

// met is what an error of layer 11 is when a table of bytes is asked or made for a table of rows: where it isn't there, or is there already, or a page of it isn't used, somebody else has been at work.
func met(e api.Errno) api.Errno {
	if e == api.ErrIndex || e == api.ErrTwice {
		return api.ErrCorrupt
	}
	return e
}

// hasSchemas says whether there is the table of schemas; the error is the one with which nothing can be asked of the transaction.
func hasSchemas(t *base.Tx) (bool, api.Errno) {
	_, e := t.Count(schemas)
	if e == api.ErrIndex {
		return false, api.OK
	}
	return e == api.OK, e
}

// find is the table of rows of this name.
func find(t *base.Tx, name string) (table, api.Errno) {
	there, e := hasSchemas(t)
	if e != api.OK {
		return table{}, e
	}
	if !there || !nameMayBe(name) {
		return table{}, api.ErrIndex
	}
	text, there, e := t.Get(schemas, name)
	if e != api.OK {
		return table{}, met(e)
	}
	if !there {
		return table{}, api.ErrIndex
	}
	s, e := rows.Unschema(text)
	if e != api.OK {
		return table{}, e
	}
	return table{t: t, name: name, schema: s}, api.OK
}

// findKey is the table of rows of this name, and the key of a first value.
func findKey(t *base.Tx, name string, v api.Value) (table, string, api.Errno) {
	b, e := find(t, name)
	if e != api.OK {
		return table{}, "", e
	}
	key, e := rows.Key(b.schema, v)
	return b, key, e
}

// tables is the names of the tables of bytes in which the table lies, beside that of schemas.
func (b table) tables() []string {
	l := []string{b.name + rowsOf}
	if b.schema.Unique > 0 {
		l = append(l, b.name+uniqueOf)
	}
	if b.schema.Index > 0 {
		l = append(l, b.name+indexOf)
	}
	return l
}

// create makes the tables of bytes of a table that isn't there yet; text is its schema.
func (b table) create(text string) api.Errno {
	return b.whole(func() api.Errno {
		for _, name := range b.tables() {
			if e := b.t.Make(name); e != api.OK {
				return e
			}
		}
		// The table of schemas is made with the first table of rows.
		if e := b.t.Make(schemas); e != api.OK && e != api.ErrTwice {
			return e
		}
		return b.t.Put(schemas, b.name, text)
	})
}

// whole does something wholly, or not at all.
func (b table) whole(do func() api.Errno) api.Errno {
	k := b.t.Save()
	e := do()
	if e != api.OK {
		b.t.Back(k)
	}
	return met(e)
}

// places is where a row that fits lies, and as what.
func (b table) places(r api.Row) []place {
	key, rest, _ := rows.Write(b.schema, r)
	l := []place{{table: b.name + rowsOf, key: key, value: rest}}
	if u := b.schema.Unique; u > 0 {
		l = append(l, place{table: b.name + uniqueOf, key: alone(r[u]), value: key})
	}
	if i := b.schema.Index; i > 0 {
		l = append(l, place{table: b.name + indexOf, key: alone(r[i]) + key})
	}
	return l
}

// row is the row with this key, nil if there is none.
func (b table) row(key string) (api.Row, api.Errno) {
	rest, there, e := b.t.Get(b.name+rowsOf, key)
	if e != api.OK || !there {
		return nil, met(e)
	}
	return rows.Read(b.schema, key, rest)
}

// lies is the places of the row with this key, none if there is no such row.
func (b table) lies(key string) ([]place, api.Errno) {
	r, e := b.row(key)
	if e != api.OK || r == nil {
		return nil, e
	}
	l := b.places(r)
	for _, p := range l {
		value, there, e := b.t.Get(p.table, p.key)
		if e != api.OK {
			return nil, met(e)
		}
		if !there || value != p.value {
			return nil, api.ErrCorrupt
		}
	}
	return l, api.OK
}

// refusal is the error with which a row that fits can't be put at the places now, if there is one; was is where the one lies that it is put instead of.
func (b table) refusal(r api.Row, was, now []place) api.Errno {
	if u := b.schema.Unique; u > 0 {
		other, e := b.by(r[u])
		if e != api.OK {
			return e
		}
		if other != nil && other[0] != r[0] {
			return api.ErrTwice
		}
	}
	for _, p := range now {
		_, there, e := b.t.Get(p.table, p.key)
		if e != api.OK {
			return met(e)
		}
		if there && !holds(was, p) {
			return api.ErrCorrupt
		}
	}
	return api.OK
}

// holds says whether one of the places has the table and the key of p.
func holds(l []place, p place) bool {
	return slices.ContainsFunc(l, func(q place) bool { return q.table == p.table && q.key == p.key })
}

// change lets a row lie at the places now that lay at the places was. What goes goes first, and a key that stays isn't taken out: so no more pages are needed than must be.
func (b table) change(was, now []place) api.Errno {
	return b.whole(func() api.Errno {
		for _, p := range was {
			if holds(now, p) {
				continue
			}
			if _, e := b.t.Delete(p.table, p.key); e != api.OK {
				return e
			}
		}
		for _, p := range now {
			if e := b.t.Put(p.table, p.key, p.value); e != api.OK {
				return e
			}
		}
		return api.OK
	})
}

// all is all rows, in order.
func (b table) all() ([]api.Row, api.Errno) {
	pairs, e := b.t.Scan(b.name+rowsOf, "", "")
	if e != api.OK {
		return nil, met(e)
	}
	var l []api.Row
	for _, p := range pairs {
		r, e := rows.Read(b.schema, p.Key, p.Value)
		if e != api.OK {
			return nil, e
		}
		l = append(l, r)
	}
	return l, api.OK
}

// by is the row with this value in the column Unique, which there is; nil if there is no such row.
func (b table) by(v api.Value) (api.Row, api.Errno) {
	u := b.schema.Unique
	// As the first one of a schema of its own the column's value has a key, if it fits.
	key, e := rows.Key(api.Schema{Kinds: b.schema.Kinds[u : u+1]}, v)
	if e != api.OK {
		return nil, e
	}
	rowKey, there, e := b.t.Get(b.name+uniqueOf, key)
	if e != api.OK || !there {
		return nil, met(e)
	}
	r, e := b.row(rowKey)
	if e != api.OK {
		return nil, e
	}
	if r == nil || r[u] != v {
		return nil, api.ErrCorrupt
	}
	return r, api.OK
}

// look is the rows whose value in the column Index, which there is, has these bytes.
func (b table) look(ahead string) ([]api.Row, api.Errno) {
	// The bytes begin with their kind, which isn't 255: so there is something behind them.
	behind, _ := keys.Next(ahead)
	pairs, e := b.t.Scan(b.name+indexOf, ahead, behind)
	if e != api.OK {
		return nil, met(e)
	}
	var l []api.Row
	for _, p := range pairs {
		r, e := b.row(strings.TrimPrefix(p.Key, ahead))
		if e != api.OK {
			return nil, e
		}
		if r == nil || alone(r[b.schema.Index]) != ahead || p.Value != "" {
			return nil, api.ErrCorrupt
		}
		l = append(l, r)
	}
	return l, api.OK
}

// sound says whether the table's tables of bytes have its rows' places, and nothing else. Two rows with one value in the column Unique would have one key there: so one of them doesn't lie as it should.
func (b table) sound() bool {
	l, e := b.all()
	if e != api.OK {
		return false
	}
	var should, has []place
	for _, r := range l {
		places, e := b.lies(alone(r[0]))
		if e != api.OK {
			return false
		}
		should = append(should, places...)
	}
	for _, name := range b.tables() {
		pairs, e := b.t.Scan(name, "", "")
		if e != api.OK {
			return false
		}
		for _, p := range pairs {
			has = append(has, place{table: name, key: p.Key, value: p.Value})
		}
	}
	slices.SortFunc(should, comparePlaces)
	slices.SortFunc(has, comparePlaces)
	// A tree that somebody else has built may have a pair twice.
	return slices.Equal(slices.Compact(should), has)
}

// comparePlaces orders places.
func comparePlaces(p, q place) int {
	return cmp.Or(strings.Compare(p.table, q.table), strings.Compare(p.key, q.key), strings.Compare(p.value, q.value))
}
