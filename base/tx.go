package base

import (
	"maps"

	"factotum/api"
	"factotum/space"
	"factotum/tree"
)

// Tx is a transaction. It isn't over as long as it is its base's.
type Tx struct {
	b      *Base
	w      *space.Work
	tables map[string]table
	notes  []note
}

// note is what was there when it was made: the tables, and, by the number of a note of its own, what the pages were.
type note struct {
	work   int
	tables map[string]table
}

// refusal is the error with which nothing can be asked of the transaction, if there is one. A transaction that nobody began answers as none.
func (t *Tx) refusal() api.Errno {
	switch {
	case t == nil || t.b == nil:
		return api.ErrArg
	case t.b.tx != t:
		return api.ErrState
	}
	return api.OK
}

// refusalOf is the error with which no table of this name can be made or killed, if there is one.
func (t *Tx) refusalOf(name string) api.Errno {
	if e := t.refusal(); e != api.OK {
		return e
	}
	if !nameMayBe(name) {
		return api.ErrArg
	}
	return api.OK
}

// table is the table of this name.
func (t *Tx) table(name string) (table, api.Errno) {
	if e := t.refusal(); e != api.OK {
		return table{}, e
	}
	x, there := t.tables[name]
	if !there {
		return table{}, api.ErrIndex
	}
	return x, api.OK
}

// set makes a table what it is behind a change of its tree. If the head had told a wrong count, what comes of that may be none that goes with the tree: then it is the nearest one that does, so that the head that is written is one.
func (t *Tx) set(name string, root, pairs int) {
	if root == empty {
		pairs = 0
	} else {
		pairs = min(max(pairs, 1), maxPairs)
	}
	t.tables[name] = table{root: root, pairs: pairs}
}

// Make makes a table without pairs.
func (t *Tx) Make(name string) api.Errno {
	if e := t.refusalOf(name); e != api.OK {
		return e
	}
	if _, there := t.tables[name]; there {
		return api.ErrTwice
	}
	if len(t.tables) >= maxTables {
		return api.ErrLong
	}
	t.tables[name] = table{}
	return api.OK
}

// Kill lets a table be there no more.
func (t *Tx) Kill(name string) api.Errno {
	if e := t.refusalOf(name); e != api.OK {
		return e
	}
	x, e := t.table(name)
	if e != api.OK {
		return e
	}
	if e := tree.Drop(t.w, x.root); e != api.OK {
		return e
	}
	delete(t.tables, name)
	return api.OK
}

// Names is the tables' names, in order.
func (t *Tx) Names() []string {
	if t.refusal() != api.OK {
		return nil
	}
	return names(t.tables)
}

// Count is how many pairs a table has.
func (t *Tx) Count(name string) (int, api.Errno) {
	x, e := t.table(name)
	return x.pairs, e
}

// Get is the value of a table's key, and whether it has one.
func (t *Tx) Get(name, key string) (string, bool, api.Errno) {
	x, e := t.table(name)
	if e != api.OK {
		return "", false, e
	}
	return tree.Get(t.w, x.root, key)
}

// Put puts a pair into a table, instead of one with the key.
func (t *Tx) Put(name, key, value string) api.Errno {
	x, e := t.table(name)
	if e != api.OK {
		return e
	}
	// Where this is an error the tree's Put has one, too, and that is the one to be told.
	_, there, _ := tree.Get(t.w, x.root, key)
	root, e := tree.Put(t.w, x.root, key, value)
	if e != api.OK {
		return e
	}
	pairs := x.pairs
	if !there {
		pairs++
	}
	t.set(name, root, pairs)
	return api.OK
}

// Delete takes a key's pair out of a table, and says whether there was one.
func (t *Tx) Delete(name, key string) (bool, api.Errno) {
	x, e := t.table(name)
	if e != api.OK {
		return false, e
	}
	root, there, e := tree.Delete(t.w, x.root, key)
	if there {
		t.set(name, root, x.pairs-1)
	}
	return there, e
}

// Scan is a table's pairs whose keys aren't ahead of from and are ahead of to, or all those behind, if to is empty.
func (t *Tx) Scan(name, from, to string) ([]api.Pair, api.Errno) {
	x, e := t.table(name)
	if e != api.OK {
		return nil, e
	}
	return tree.Scan(t.w, x.root, from, to)
}

// Save notes what is there, and answers the note's number.
func (t *Tx) Save() int {
	if t.refusal() != api.OK {
		return 0
	}
	t.notes = append(t.notes, note{work: t.w.Save(), tables: maps.Clone(t.tables)})
	return len(t.notes) - 1
}

// Back makes all as it was noted; later notes are gone.
func (t *Tx) Back(k int) api.Errno {
	if e := t.refusal(); e != api.OK {
		return e
	}
	if k < 0 || k >= len(t.notes) {
		return api.ErrIndex
	}
	if e := t.w.Back(t.notes[k].work); e != api.OK {
		return e
	}
	// The note stays: what is done from here on mustn't change what it has.
	t.tables = maps.Clone(t.notes[k].tables)
	t.notes = t.notes[:k+1]
	return api.OK
}

// Commit makes what the transaction did the base's.
func (t *Tx) Commit() api.Errno {
	if e := t.refusal(); e != api.OK {
		return e
	}
	if e := t.w.SetHead(writeHead(t.tables)); e != api.OK {
		return e
	}
	e := t.w.Commit()
	if e != api.ErrLong {
		t.b.crashed = e == api.ErrCrash
		t.end()
	}
	return e
}

// Abort ends the transaction, and nothing of it is left.
func (t *Tx) Abort() api.Errno {
	if e := t.refusal(); e != api.OK {
		return e
	}
	t.end()
	return api.OK
}

// end makes the transaction one that is over, and keeps nothing of it.
func (t *Tx) end() {
	t.b.tx = nil
	*t = Tx{b: t.b}
}

// Sound says whether all tables' trees are sound, with as many pairs as the tables have, and no other page is used.
func (t *Tx) Sound() bool {
	if t.refusal() != api.OK {
		return false
	}
	k := t.w.Save()
	sound := t.dropSound() && t.w.Used() == 1
	return t.w.Back(k) == api.OK && sound
}

// dropSound drops all tables' trees, and says whether each was as it should be. Behind that only page 0 is used, if all pages were theirs; and a page that two trees have isn't used any more when the second one is looked at.
func (t *Tx) dropSound() bool {
	for _, x := range t.tables {
		if _, _, sound := tree.Sound(t.w, x.root); !sound {
			return false
		}
		l, e := tree.Scan(t.w, x.root, "", "")
		if e != api.OK || len(l) != x.pairs || tree.Drop(t.w, x.root) != api.OK {
			return false
		}
	}
	return true
}
