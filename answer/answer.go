// Package answer: what an answer tells, to whoever has its bytes alone.
package answer

import (
	"slices"

	"attest/api"
	"attest/entry"
	"attest/mark"
	"attest/question"
	"attest/sum"
)

// Tree is a tree as an answer tells of it: by its node, or by its digest
// alone. With neither of them it is empty.
type Tree struct {
	node  *node
	alone string
}

type node struct {
	entry.Entry
	left, right Tree
}

// Digest tells the digest that the answer tells of.
func (t Tree) Digest() string { return t.told().digest }

// Fault tells what does not stand where it may in an answer to this question,
// or nil.
func (t Tree) Fault(q question.Question) error {
	return over[error]{
		node: func(n *node, within question.Bounds, left, right error) error {
			switch {
			case !within.MatterTo(q):
				return Misplaced{Why: "a node where nothing matters"}
			case !within.Hold(n.Key):
				return Misplaced{Why: "a key that is not between its bounds"}
			case left != nil:
				return Beside{Side: toTheLeft, Key: n.Key, Err: left}
			case right != nil:
				return Beside{Side: toTheRight, Key: n.Key, Err: right}
			}
			return nil
		},
		empty: func(within question.Bounds) error {
			if !within.MatterTo(q) {
				return Misplaced{Why: "an empty tree where nothing matters"}
			}
			return nil
		},
		alone: func(_ string, within question.Bounds) error {
			if within.MatterTo(q) {
				return Misplaced{Why: "a digest alone for a tree that matters"}
			}
			return nil
		},
	}.whole(t)
}

// Pairs tells, of an answer without fault, the pairs that the question asks
// for, by rising keys, in a list of its own.
func (t Tree) Pairs(q question.Question) []api.Pair {
	return over[[]api.Pair]{
		node: func(n *node, _ question.Bounds, left, right []api.Pair) []api.Pair {
			if !q.AsksFor(n.Key) {
				return slices.Concat(left, right)
			}
			return slices.Concat(left, []api.Pair{n.Pair()}, right)
		},
		empty: func(question.Bounds) []api.Pair { return nil },
		alone: func(string, question.Bounds) []api.Pair { return nil },
	}.whole(t)
}

// Differ tells the first two texts that are not the same in two answers
// without fault to one question, and whether there are such.
//
// One list of texts beside the other is both answers gone through at the same
// time: as long as the texts are the same, so are the keys, and with them the
// bounds; so there is a digest alone in both or in none, and the lists run in
// step up to the first difference.
func Differ(one, two Tree) (string, string, bool) {
	first, second := one.told().texts, two.told().texts
	for i := range min(len(first), len(second)) {
		if first[i] != second[i] {
			return first[i], second[i], true
		}
	}
	return "", "", false
}

// What an answer tells of a tree: its digest, and the texts of all trees in
// it, from the top, the left ahead of the right.
type told struct {
	digest string
	texts  []string
}

func (t Tree) told() told {
	return over[told]{
		node: func(n *node, _ question.Bounds, left, right told) told {
			text := n.Text(left.digest, right.digest)
			return told{digest: sum.Of(text), texts: slices.Concat([]string{text}, left.texts, right.texts)}
		},
		empty: func(question.Bounds) told {
			return told{digest: sum.Of(mark.Empty), texts: []string{mark.Empty}}
		},
		alone: func(digest string, _ question.Bounds) told {
			return told{digest: digest}
		},
	}.whole(t)
}
