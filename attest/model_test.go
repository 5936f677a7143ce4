package attest

import (
	"fmt"
	"slices"
	"strings"
	"testing"
)

type item struct {
	key, value string
	height     int
}

// A tree made another way than the program makes it: the items go in one by
// one, the ones that belong further up first, each to a place at the bottom.
type branch struct {
	item
	left, right *branch
}

func grown(items []item) *branch {
	items = slices.Clone(items)
	slices.SortFunc(items, func(x, y item) int {
		if x.height != y.height {
			return y.height - x.height
		}
		return strings.Compare(x.key, y.key)
	})
	var root *branch
	for _, x := range items {
		at := &root
		for *at != nil {
			if x.key < (*at).key {
				at = &(*at).left
			} else {
				at = &(*at).right
			}
		}
		*at = &branch{item: x}
	}
	return root
}

func (b *branch) start() string {
	return fmt.Sprintf("N%c%s%c%s%c", len(b.key), b.key, len(b.value), b.value, b.height)
}

func (b *branch) digest() string {
	text := "E"
	if b != nil {
		text = b.start() + b.left.digest() + b.right.digest()
	}
	n := 1
	for _, c := range []byte(text) {
		n = (n*263 + int(c) + 1) % 4093
	}
	return fmt.Sprintf("%03x", n)
}

// The bounds are pointers here, so that "no bound" is no text at all.
func (b *branch) answer(lo, hi string, below, above *string) string {
	if below != nil && *below >= hi || above != nil && lo >= *above {
		return "S" + b.digest()
	}
	if b == nil {
		return "E"
	}
	return b.start() + b.left.answer(lo, hi, below, &b.key) + b.right.answer(lo, hi, &b.key, above)
}

func filled(t *testing.T, items []item) *Book {
	t.Helper()
	b := New()
	for _, x := range items {
		put(t, b, x.key, x.value, x.height)
	}
	return b
}

// Numbers that look thrown, and are the same at each run.
type dice uint32

func (d *dice) below(n int) int {
	*d = *d*1664525 + 1013904223
	return int(*d>>8) % n
}

// Keys of few different bytes, so that many begin alike or stand close by.
func (d *dice) key() string {
	bytes := make([]byte, 1+d.below(3))
	for i := range bytes {
		bytes[i] = "\x00\x01Nk\x80\xff"[d.below(6)]
	}
	return string(bytes)
}

func (d *dice) value() string {
	bytes := make([]byte, d.below(21))
	for i := range bytes {
		bytes[i] = byte(d.below(256))
	}
	return string(bytes)
}

func (d *dice) items(n, heights int) []item {
	var list []item
	seen := map[string]bool{}
	for len(list) < n {
		if key := d.key(); !seen[key] {
			seen[key] = true
			list = append(list, item{key, d.value(), d.below(heights)})
		}
	}
	return list
}

func (d *dice) shuffled(items []item) []item {
	items = slices.Clone(items)
	for i := range items {
		j := i + d.below(len(items)-i)
		items[i], items[j] = items[j], items[i]
	}
	return items
}
