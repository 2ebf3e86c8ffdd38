package base

import (
	"slices"
	"strings"

	"factotum/api"
	"factotum/pack"
)

const (
	// maxName is how many bytes a table's name has at most.
	maxName = 8
	// maxTables is how many tables a base has at most.
	maxTables = 12
	// wide is how many bytes of the head a root has, and a count.
	wide = 2
	// maxPairs is the most that a count's bytes tell.
	maxPairs = 1<<(8*wide) - 1
	// empty is the root of a tree without pairs.
	empty = 0
)

// table is where a table's tree lies, and how many pairs it has.
type table struct {
	root, pairs int
}

// mayBe says whether a base of so many pages may have such a table: only the empty tree is without pairs.
func (x table) mayBe(pages int) bool {
	return x.root < pages && (x.root == empty) == (x.pairs == 0)
}

// nameMayBe says whether a table may have the name.
func nameMayBe(name string) bool {
	if len(name) < 1 || len(name) > maxName {
		return false
	}
	for _, letter := range name {
		if letter != '_' && (letter < 'a' || letter > 'z') {
			return false
		}
	}
	return true
}

// names is the tables' names, in order.
func names(tables map[string]table) []string {
	l := make([]string, 0, len(tables))
	for name := range tables {
		l = append(l, name)
	}
	slices.Sort(l)
	return l
}

// writeHead is the tables' head, without the noughts behind the last one.
func writeHead(tables map[string]table) string {
	b := pack.Num(nil, uint64(len(tables)), 1)
	for _, name := range names(tables) {
		b = pack.Str(b, name)
		b = pack.Num(b, uint64(tables[name].root), wide)
		b = pack.Num(b, uint64(tables[name].pairs), wide)
	}
	return string(b)
}

// readHead is the tables of a head, in a base of so many pages.
func readHead(s string, pages int) (map[string]table, api.Errno) {
	r := pack.From(s)
	count := r.Num(1)
	if count > maxTables {
		return nil, api.ErrCorrupt
	}
	tables := make(map[string]table)
	for range count {
		// A text that is too long is read as an empty one, which is no name either.
		name := r.Str(maxName)
		root, pairs := r.Num(wide), r.Num(wide)
		x := table{root: int(root), pairs: int(pairs)}
		if !nameMayBe(name) || !x.mayBe(pages) {
			return nil, api.ErrCorrupt
		}
		tables[name] = x
	}
	// They are written as they were read only if the names are in order, and none is there twice.
	behind, same := strings.CutPrefix(s, writeHead(tables))
	if !same || strings.Trim(behind, "\x00") != "" {
		return nil, api.ErrCorrupt
	}
	return tables, api.OK
}
