package tree

import (
	"slices"
	"testing"

	"attest/entry"
	"attest/question"
	"attest/sum"
)

// A tree with its shape: the trees to the left and to the right in brackets.
func shape(n *Node) string {
	if n == nil {
		return ""
	}
	return "(" + shape(n.left) + n.Key + shape(n.right) + ")"
}

func TestShape(t *testing.T) {
	for _, c := range []struct {
		entries []entry.Entry
		want    string
	}{
		{nil, ""},
		{[]entry.Entry{{Key: "a"}}, "(a)"},
		{[]entry.Entry{{Key: "a", Height: 1}, {Key: "b", Height: 3}, {Key: "c", Height: 1}}, "((a)b(c))"},
		{[]entry.Entry{{Key: "a", Height: 1}, {Key: "b", Height: 1}, {Key: "c", Height: 1}}, "(a(b(c)))"},
		{[]entry.Entry{{Key: "a", Height: 1}, {Key: "b", Height: 2}, {Key: "c", Height: 3}}, "(((a)b)c)"},
		{[]entry.Entry{{Key: "a", Height: 2}, {Key: "b", Height: 3}, {Key: "c", Height: 0}, {Key: "d", Height: 3}, {Key: "e", Height: 15}}, "(((a)b((c)d))e)"},
	} {
		if got := shape(Of(c.entries)); got != c.want {
			t.Errorf("the tree of %v is %s, want %s", c.entries, got, c.want)
		}
	}
}

func TestNodeTellsWhatItHolds(t *testing.T) {
	e := entry.Entry{Key: "k", Value: "v", Height: 2}
	n := Of([]entry.Entry{e})
	if n.Entry != e || n.Pair() != e.Pair() || n.Head() != e.Head() {
		t.Errorf("the node holds %v, want %v", n.Entry, e)
	}
}

func TestDigest(t *testing.T) {
	if got := Of(nil).Digest(); got != "14d" {
		t.Errorf("of the empty tree: %q", got)
	}
	n := Of([]entry.Entry{{Key: "a", Value: "1", Height: 1}, {Key: "b", Value: "2", Height: 3}, {Key: "c", Value: "3", Height: 1}})
	if a, b, c := n.left.Digest(), n.Digest(), n.right.Digest(); a != "546" || b != "214" || c != "96e" {
		t.Errorf("of a, b and c: %q, %q, %q", a, b, c)
	}
	if want := sum.Of("N\x01b\x012\x03546" + "96e"); n.Digest() != want {
		t.Errorf("of b: %q, want %q", n.Digest(), want)
	}
}

func TestAnswer(t *testing.T) {
	n := Of([]entry.Entry{{Key: "a", Value: "1", Height: 1}, {Key: "b", Value: "2", Height: 3}, {Key: "c", Value: "3", Height: 1}})
	for _, c := range []struct{ lo, hi, want string }{
		{"a", "a", "N\x01b\x012\x03N\x01a\x011\x01S14dS14dS96e"},
		{"a", "az", "N\x01b\x012\x03N\x01a\x011\x01S14dES96e"},
		{"b", "b", "N\x01b\x012\x03S546S96e"},
		{"d", "e", "N\x01b\x012\x03S546N\x01c\x013\x01S14dE"},
		{"A", "z", "N\x01b\x012\x03N\x01a\x011\x01EEN\x01c\x013\x01EE"},
	} {
		if got := n.Answer(question.Question{Lo: c.lo, Hi: c.hi}); got != c.want {
			t.Errorf("to %q, %q: %q, want %q", c.lo, c.hi, got, c.want)
		}
	}
	if got := Of(nil).Answer(question.Question{Lo: "a", Hi: "a"}); got != "E" {
		t.Errorf("of the empty tree: %q", got)
	}
}

// What is handed in is neither changed nor kept.
func TestEntriesStayTheCallers(t *testing.T) {
	entries := []entry.Entry{{Key: "a", Height: 1}, {Key: "b", Height: 3}, {Key: "c", Height: 1}}
	before := slices.Clone(entries)
	n := Of(entries)
	digest := n.Digest()
	if !slices.Equal(entries, before) {
		t.Errorf("the entries have become %v", entries)
	}
	clear(entries)
	if shape(n) != "((a)b(c))" || n.Digest() != digest {
		t.Errorf("the tree was changed through the entries: %s", shape(n))
	}
}
