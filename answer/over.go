package answer

import "attest/question"

// What goes over an answer, from below: each function is called at the trees
// of one kind, with their bounds, and that for a node also with what came of
// the trees to its left and to its right.
type over[T any] struct {
	node  func(n *node, within question.Bounds, left, right T) T
	empty func(within question.Bounds) T
	alone func(digest string, within question.Bounds) T
}

// Above the whole there is no node, and so it has no bounds.
func (o over[T]) whole(t Tree) T { return o.part(t, question.Bounds{}) }

func (o over[T]) part(t Tree, within question.Bounds) T {
	switch {
	case t.node != nil:
		left := o.part(t.node.left, within.Left(t.node.Key))
		right := o.part(t.node.right, within.Right(t.node.Key))
		return o.node(t.node, within, left, right)
	case t.alone != "":
		return o.alone(t.alone, within)
	}
	return o.empty(within)
}
