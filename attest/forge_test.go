package attest

import (
	"fmt"
	"strconv"
	"strings"
)

// Answers that no book gives: bent ones, ones out of the blue, and ones that
// pass nevertheless.

func (d *dice) question(items []item) (lo, hi string) {
	lo, hi = d.bound(items), d.bound(items)
	return min(lo, hi), max(lo, hi)
}

// An answer with a small change somewhere, or with none.
func (d *dice) bent(answer string) string {
	i := d.below(len(answer))
	switch d.below(8) {
	case 0:
		return answer[:i] + string([]byte{byte(d.below(256))}) + answer[i+1:]
	case 1:
		return answer[:i] + string([]byte{answer[i] ^ 1<<d.below(8)}) + answer[i+1:]
	case 2:
		return answer[:i] + "ENS\x00\x01k14d"[d.below(9):][:1] + answer[i:]
	case 3:
		return answer[:i] + answer[i+1:]
	case 4:
		return d.swapped(answer)
	case 5:
		return d.swapped(d.swapped(answer))
	case 6:
		return answer[:i] + answer[d.below(len(answer)):]
	}
	return answer
}

// An answer with one of its trees put in the stead of another.
func (d *dice) swapped(answer string) string {
	list := pieces(answer)
	if list == nil {
		return answer
	}
	from, at := d.below(len(list)), d.below(len(list))
	return strings.Join([]string{bytesOf(list[:at]), d.tree(list[from:]), bytesOf(list[at+treeEnd(list[at:]):])}, "")
}

func (d *dice) tree(list []*piece) string {
	if d.below(3) == 0 {
		return []string{"E", "S14d", "S" + fmt.Sprintf("%03x", d.below(4096)), node(d.key(), d.value(), d.below(16)) + "EE"}[d.below(4)]
	}
	return bytesOf(list[:treeEnd(list)])
}

// How many pieces the tree has that begins with the first of them.
func treeEnd(list []*piece) int {
	open := 1
	for i, p := range list {
		open--
		if p.kind == 'N' {
			open += 2
		}
		if open == 0 {
			return i + 1
		}
	}
	return len(list)
}

func bytesOf(list []*piece) string {
	s := ""
	for _, p := range list {
		s += p.bytes
	}
	return s
}

// An answer that was never a book's, mostly well placed.
func (d *dice) anyAnswer(lo, hi string) string {
	nodes := d.below(20)
	return d.anyTree(lo, hi, nil, nil, &nodes)
}

func (d *dice) anyTree(lo, hi string, below, above *string, nodes *int) string {
	matters := (below == nil || *below < hi) && (above == nil || lo < *above)
	if d.below(60) == 0 {
		matters = !matters
	}
	if !matters {
		return "S" + fmt.Sprintf("%03x", d.below(4096))
	}
	key := d.key()
	for range 5 {
		if below != nil && key <= *below || above != nil && *above <= key {
			key = d.key()
		}
	}
	if *nodes == 0 || (below != nil && key <= *below || above != nil && *above <= key) && d.below(20) > 0 {
		return "E"
	}
	*nodes--
	return node(key, d.value(), d.below(16)) + d.anyTree(lo, hi, below, &key, nodes) + d.anyTree(lo, hi, &key, above, nodes)
}

// Bytes that pass as this answer does: one of its trees is another, of the
// same digest.
func (d *dice) forged(answer, lo, hi string) string {
	list := pieces(answer)
	joined(list)
	at := d.below(len(list))
	if list[at].kind == 'S' {
		at = 0
	}
	below, above := boundsOf(list, at)
	stead := d.treeOf(list[at].digest, lo, hi, below, above)
	if stead == "" {
		return answer
	}
	return bytesOf(list[:at]) + stead + bytesOf(list[at+treeEnd(list[at:]):])
}

// A tree within these bounds, mostly well placed, that has this digest; or
// nothing, if none was found.
func (d *dice) treeOf(digest, lo, hi string, below, above *string) string {
	nodes := 1 + d.below(5)
	list := pieces(d.anyTree(lo, hi, below, above, &nodes))
	top := joined(list)
	if top.kind != 'N' {
		return ""
	}
	head := ofDigest(top.key, top.height, top.left.digest, top.right.digest, digest)
	if head == "" {
		return ""
	}
	return head + bytesOf(list[1:])
}

// How a node begins that has this digest, by its value.
func ofDigest(key string, height int, left, right, digest string) string {
	want, err := strconv.ParseInt(digest, 16, 32)
	if err != nil {
		return ""
	}
	for n := range 256 * 256 {
		head := node(key, string([]byte{byte(n >> 8), byte(n)}), height)
		if plainNumber(head+left+right) == int(want) {
			return head
		}
	}
	return ""
}

// The keys of nodes between which the tree lies that begins at this piece.
func boundsOf(list []*piece, at int) (below, above *string) {
	open := [][2]*string{{}}
	for i, p := range list {
		below, above = open[len(open)-1][0], open[len(open)-1][1]
		if i == at {
			break
		}
		open = open[:len(open)-1]
		if p.kind == 'N' {
			open = append(open, [2]*string{&p.key, above}, [2]*string{below, &p.key})
		}
	}
	return below, above
}
