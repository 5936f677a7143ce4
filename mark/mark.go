// Package mark: the letters by which texts and answers tell one kind of tree
// from another.
package mark

const (
	Node  = "N" // a tree with a node: what the node holds, and two trees
	Empty = "E" // an empty tree
	Alone = "S" // a digest in the stead of a tree
)
