// Package tree: the tree of some keys, its digest, and its answers.
package tree

import (
	"attest/entry"
	"attest/mark"
	"attest/question"
	"attest/sum"
)

// Node is a tree by the node at its top; nil is the empty tree.
type Node struct {
	entry.Entry
	left, right *Node
	digest      string
}

// Of makes the tree of entries that stand by rising keys.
func Of(entries []entry.Entry) *Node {
	if len(entries) == 0 {
		return nil
	}
	at := top(entries)
	n := &Node{Entry: entries[at], left: Of(entries[:at]), right: Of(entries[at+1:])}
	n.digest = sum.Of(n.Text(n.left.Digest(), n.right.Digest()))
	return n
}

// Digest tells the digest of a tree.
func (n *Node) Digest() string {
	if n == nil {
		return sum.Of(mark.Empty)
	}
	return n.digest
}

// Answer makes the answer to a question.
func (n *Node) Answer(q question.Question) string {
	return n.answer(q, question.Bounds{})
}

func (n *Node) answer(q question.Question, within question.Bounds) string {
	switch {
	case !within.MatterTo(q):
		return mark.Alone + n.Digest()
	case n == nil:
		return mark.Empty
	}
	return n.Head() + n.left.answer(q, within.Left(n.Key)) + n.right.answer(q, within.Right(n.Key))
}

// Only a greater height takes the place of one that came before: so the least
// key is taken of several that have the greatest.
func top(entries []entry.Entry) int {
	at := 0
	for i, e := range entries {
		if e.Height > entries[at].Height {
			at = i
		}
	}
	return at
}
