// Package attest: a dictionary whose answers can be checked: see DOC.md.
package attest

import (
	"errors"

	"attest/answer"
	"attest/api"
	"attest/entry"
	"attest/question"
	"attest/shelf"
	"attest/sum"
	"attest/tree"
)

// Book is a dictionary.
type Book struct {
	entries shelf.Shelf
}

// New makes an empty one (P4).
func New() *Book { return &Book{} }

// Put puts a value under a key (P4).
func (b *Book) Put(key, value string, height int) api.Errno {
	e := entry.Entry{Key: key, Value: value, Height: height}
	if fault := e.Fault(); fault != api.OK {
		return fault
	}
	// A nil book has no room at all: to say so is better than to panic.
	if b == nil || !b.entries.Takes(key) {
		return api.ErrFull
	}
	b.entries = b.entries.With(e)
	return api.OK
}

// Delete takes a key out (P4).
func (b *Book) Delete(key string) api.Errno {
	if !entry.IsKey(key) {
		return api.ErrKey
	}
	if !b.kept().Has(key) {
		return api.ErrNone
	}
	b.entries = b.entries.Without(key)
	return api.OK
}

// Get gets a value (P5).
func (b *Book) Get(key string) (string, api.Errno) {
	if !entry.IsKey(key) {
		return "", api.ErrKey
	}
	e, found := b.kept().Find(key)
	if !found {
		return "", api.ErrNone
	}
	return e.Value, api.OK
}

// All tells all keys and values (P5).
func (b *Book) All() []api.Pair { return b.kept().Pairs() }

// Digest tells the digest (P6).
func (b *Book) Digest() string { return b.tree().Digest() }

// Prove makes the answer to a question (P7).
func (b *Book) Prove(lo, hi string) (string, api.Errno) {
	q := question.Question{Lo: lo, Hi: hi}
	if fault := q.Fault(); fault != api.OK {
		return "", fault
	}
	return b.tree().Answer(q), api.OK
}

// Sum is a text's digest (P3).
func Sum(s string) string { return sum.Of(s) }

// Check checks an answer, and reads it (P8).
func Check(digest, lo, hi, answer string) ([]api.Pair, api.Errno) {
	q := question.Question{Lo: lo, Hi: hi}
	told, fault := read(q, answer)
	switch {
	case fault != api.OK:
		return nil, fault
	case told.Digest() != digest:
		return nil, api.ErrProof
	}
	return told.Pairs(q), api.OK
}

// Extract shows where a digest failed (P9).
func Extract(lo, hi, one, two string) (string, string, api.Errno) {
	q := question.Question{Lo: lo, Hi: hi}
	first, fault := read(q, one)
	if fault != api.OK {
		return "", "", fault
	}
	second, fault := read(q, two)
	if fault != api.OK {
		return "", "", fault
	}
	if first.Digest() != second.Digest() {
		return "", "", api.ErrProof
	}
	// The same bytes tell the same texts: they need no look of their own.
	here, there, found := answer.Differ(first, second)
	if !found {
		return "", "", api.ErrSame
	}
	return here, there, api.OK
}

// The bytes are read to their end before the places are looked at: a fault
// of the bytes goes ahead of one of a place, wherever the two are.
func read(q question.Question, bytes string) (answer.Tree, api.Errno) {
	if fault := q.Fault(); fault != api.OK {
		return answer.Tree{}, fault
	}
	told, err := answer.Read(bytes)
	if err != nil {
		return answer.Tree{}, errno(err)
	}
	if err := told.Fault(q); err != nil {
		return answer.Tree{}, errno(err)
	}
	return told, api.OK
}

func errno(err error) api.Errno {
	var unread answer.Unread
	var misplaced answer.Misplaced
	switch {
	case errors.As(err, &unread):
		return api.ErrBytes
	case errors.As(err, &misplaced):
		return api.ErrPlace
	}
	// An error of no known kind must not let an answer pass.
	return api.ErrProof
}

// The tree is made anew for each call: it hangs on the entries alone, and so
// nothing of it has to be kept.
func (b *Book) tree() *tree.Node { return tree.Of(b.kept()) }

// A nil book holds nothing, so that asking it does not panic.
func (b *Book) kept() shelf.Shelf {
	if b == nil {
		return nil
	}
	return b.entries
}
