package attest

import (
	"fmt"
	"regexp"
	"slices"
	"strings"

	"attest/api"
)

// Answers judged another way than the program does it: cut into pieces by a
// pattern, counted, and then put together from behind.

// What stands at one place of an answer.
type piece struct {
	kind         byte
	bytes        string // as they stand there
	item                // of an N
	text, digest string // of the tree
	left, right  *piece
}

var onePiece = regexp.MustCompile(`(?s)^(?:E|S[0-9a-f]{3}|N(?:` + upTo(1, 8) + `)(?:` + upTo(0, 20) + `)[\x00-\x0f])`)

func upTo(least, most int) string {
	var list []string
	for n := least; n <= most; n++ {
		list = append(list, fmt.Sprintf(`\x%02x.{%d}`, n, n))
	}
	return strings.Join(list, "|")
}

// A pattern goes by runes: so each byte becomes one.
func asRunes(bytes string) string {
	var runes []rune
	for _, b := range []byte(bytes) {
		runes = append(runes, rune(b))
	}
	return string(runes)
}

func asBytes(runes string) string {
	var bytes []byte
	for _, r := range runes {
		bytes = append(bytes, byte(r))
	}
	return string(bytes)
}

// The pieces, or nil if these are no answer's bytes.
func pieces(bytes string) []*piece {
	if len(bytes) > 5000 { // fifty nodes are shorter
		return nil
	}
	rest, open, nodes := asRunes(bytes), 1, 0
	var list []*piece
	for open > 0 {
		found := onePiece.FindString(rest)
		if found == "" {
			return nil
		}
		rest = rest[len(found):]
		p := &piece{kind: found[0], bytes: asBytes(found)}
		list = append(list, p)
		open--
		if p.kind == 'N' {
			nodes++
			open += 2
			key := p.bytes[2 : 2+p.bytes[1]]
			value := p.bytes[2+len(key)+1 : len(p.bytes)-1]
			p.item = item{key, value, int(p.bytes[len(p.bytes)-1])}
		}
	}
	if rest != "" || nodes > 50 {
		return nil
	}
	return list
}

// The top of the pieces, each of which gets its text and its digest.
func joined(list []*piece) *piece {
	var stack []*piece
	for _, p := range slices.Backward(list) {
		switch p.kind {
		case 'S':
			p.digest = p.bytes[1:]
		case 'E':
			p.text, p.digest = "E", "14d"
		case 'N':
			p.left, p.right = stack[len(stack)-1], stack[len(stack)-2]
			stack = stack[:len(stack)-2]
			p.text = p.bytes + p.left.digest + p.right.digest
			p.digest = plainSum(p.text)
		}
		stack = append(stack, p)
	}
	return stack[0]
}

func plainSum(text string) string {
	return fmt.Sprintf("%03x", plainNumber(text))
}

func plainNumber(text string) int {
	n := 1
	for i := range len(text) {
		n = (n*263 + int(text[i]) + 1) % 4093
	}
	return n
}

func (p *piece) placed(lo, hi string, below, over []string) bool {
	matters := true
	for _, key := range below {
		matters = matters && key < hi
	}
	for _, key := range over {
		matters = matters && lo < key
	}
	if p.kind != 'N' {
		return matters == (p.kind == 'E')
	}
	for _, key := range below {
		matters = matters && key < p.key
	}
	for _, key := range over {
		matters = matters && p.key < key
	}
	return matters && p.left.placed(lo, hi, below, append(slices.Clone(over), p.key)) &&
		p.right.placed(lo, hi, append(slices.Clone(below), p.key), over)
}

// The answer's top, and the error without a look at a digest.
func judged(lo, hi, bytes string) (*piece, api.Errno) {
	if e := wantOfProve(lo, hi); e != api.OK {
		return nil, e
	}
	list := pieces(bytes)
	if list == nil {
		return nil, api.ErrBytes
	}
	top := joined(list)
	if !top.placed(lo, hi, nil, nil) {
		return nil, api.ErrPlace
	}
	return top, api.OK
}

func (p *piece) pairs(lo, hi string) []api.Pair {
	var list []api.Pair
	if p.kind == 'N' {
		if lo <= p.key && p.key <= hi {
			list = append(list, api.Pair{Key: p.key, Value: p.value})
		}
		list = append(append(list, p.left.pairs(lo, hi)...), p.right.pairs(lo, hi)...)
	}
	slices.SortFunc(list, func(x, y api.Pair) int { return strings.Compare(x.Key, y.Key) })
	return list
}

func wantOfCheck(digest, lo, hi, bytes string) ([]api.Pair, api.Errno) {
	top, e := judged(lo, hi, bytes)
	switch {
	case e != api.OK:
		return nil, e
	case top.digest != digest:
		return nil, api.ErrProof
	}
	return top.pairs(lo, hi), api.OK
}

// Both answers at the same time, as the document's words go.
func apart(one, two *piece) (string, string, bool) {
	if one.kind == 'S' && two.kind == 'S' {
		return "", "", false
	}
	if one.text != two.text {
		return one.text, two.text, true
	}
	if one.kind == 'E' {
		return "", "", false
	}
	if x, y, found := apart(one.left, two.left); found {
		return x, y, true
	}
	return apart(one.right, two.right)
}

func wantOfExtract(lo, hi, one, two string) (string, string, api.Errno) {
	first, e := judged(lo, hi, one)
	if e != api.OK {
		return "", "", e
	}
	second, e := judged(lo, hi, two)
	if e != api.OK {
		return "", "", e
	}
	if first.digest != second.digest {
		return "", "", api.ErrProof
	}
	x, y, found := apart(first, second)
	if one == two || !found {
		return "", "", api.ErrSame
	}
	return x, y, api.OK
}
