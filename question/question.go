// Package question: which keys are there from one to another?
package question

import (
	"attest/api"
	"attest/entry"
)

// Question asks for the keys from Lo to Hi.
type Question struct {
	Lo, Hi string
}

// Fault tells the first thing that is wrong with a question, or OK.
func (q Question) Fault() api.Errno {
	switch {
	case !entry.IsKey(q.Lo) || !entry.IsKey(q.Hi):
		return api.ErrKey
	case q.Lo > q.Hi:
		return api.ErrRange
	}
	return api.OK
}

// AsksFor tells whether a key is one from Lo to Hi.
func (q Question) AsksFor(key string) bool {
	return q.Lo <= key && key <= q.Hi
}

// The empty text is no key, and so it is free to say that there is none.
const none = ""

// Bounds are the keys of nodes between which a tree lies. The zero value has
// none on either side: it is that of the whole tree.
type Bounds struct {
	below, above string
}

// Left is the bounds of the tree to the left of a node with this key.
func (b Bounds) Left(key string) Bounds {
	return Bounds{below: b.below, above: key}
}

// Right is the bounds of the tree to the right of a node with this key.
func (b Bounds) Right(key string) Bounds {
	return Bounds{below: key, above: b.above}
}

// MatterTo tells whether a tree within these bounds matters to a question.
func (b Bounds) MatterTo(q Question) bool {
	return (b.below == none || b.below < q.Hi) && (b.above == none || q.Lo < b.above)
}

// Hold tells whether a key lies between these bounds, and is none of them.
func (b Bounds) Hold(key string) bool {
	return (b.below == none || b.below < key) && (b.above == none || key < b.above)
}
