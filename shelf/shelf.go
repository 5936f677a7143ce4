// Package shelf: the entries of a book, in order.
package shelf

import (
	"slices"
	"strings"

	"attest/api"
	"attest/entry"
)

// Shelf is entries by rising keys, each key once. It is never written into
// once it is made: a change makes a new one, so that whoever holds the old one
// (a copy of a book, say) still finds there what was there.
type Shelf []entry.Entry

// Find tells the entry under a key, and whether there is one.
func (s Shelf) Find(key string) (entry.Entry, bool) {
	at, found := s.place(key)
	if !found {
		return entry.Entry{}, false
	}
	return s[at], true
}

// Has tells whether there is an entry under a key.
func (s Shelf) Has(key string) bool {
	_, found := s.place(key)
	return found
}

// Takes tells whether an entry under this key may be put: a full shelf takes
// the keys that it has.
func (s Shelf) Takes(key string) bool {
	return len(s) < api.MaxKeys || s.Has(key)
}

// With is the shelf with this entry, in the stead of one under the same key.
func (s Shelf) With(e entry.Entry) Shelf {
	below, above := s.around(e.Key)
	return slices.Concat(below, Shelf{e}, above)
}

// Without is the shelf with no entry under this key.
func (s Shelf) Without(key string) Shelf {
	below, above := s.around(key)
	return slices.Concat(below, above)
}

// Pairs tells all keys and values in a list of its own.
func (s Shelf) Pairs() []api.Pair {
	pairs := make([]api.Pair, len(s))
	for i, e := range s {
		pairs[i] = e.Pair()
	}
	return pairs
}

func (s Shelf) around(key string) (below, above Shelf) {
	at, found := s.place(key)
	if found {
		return s[:at], s[at+1:]
	}
	return s[:at], s[at:]
}

func (s Shelf) place(key string) (int, bool) {
	return slices.BinarySearchFunc(s, key, func(e entry.Entry, key string) int {
		return strings.Compare(e.Key, key)
	})
}
