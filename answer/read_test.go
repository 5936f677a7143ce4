package answer

import (
	"errors"
	"strings"
	"testing"

	"attest/entry"
)

func head(key, value string, height int) string {
	return entry.Entry{Key: key, Value: value, Height: height}.Head()
}

// A tree in brackets, with what was read of each kind.
func shape(t Tree) string {
	switch {
	case t.node != nil:
		n := t.node
		return "(" + shape(n.left) + " " + n.Key + "=" + n.Value + " " + shape(n.right) + ")"
	case t.alone != "":
		return t.alone
	}
	return "-"
}

func mustRead(t *testing.T, bytes string) Tree {
	t.Helper()
	tree, err := Read(bytes)
	if err != nil {
		t.Fatalf("Read(%q): %v", bytes, err)
	}
	return tree
}

func TestRead(t *testing.T) {
	eight, twenty := "eight888", strings.Repeat("v", 20)
	for _, c := range []struct{ bytes, want string }{
		{"E", "-"},
		{"S14d", "14d"},
		{"S000", "000"},
		{"Sfff", "fff"},
		{head("k", "v", 2) + "EE", "(- k=v -)"},
		{head("k", "", 0) + "S09aE", "(09a k= -)"},
		{head(eight, twenty, 15) + "ESf0f", "(- " + eight + "=" + twenty + " f0f)"},
		{head("b", "2", 3) + head("a", "1", 1) + "EE" + "S96e", "((- a=1 -) b=2 96e)"},
		{head("b", "2", 3) + "S546" + head("c", "3", 1) + "EE", "(546 b=2 (- c=3 -))"},
		{head("N", "E", 'N'%16) + "EE", "(- N=E -)"},
		{head("\x00\xff", "\x80\xc3", 1) + "EE", "(- \x00\xff=\x80\xc3 -)"},
		{head("a", "", 1) + head("c", "", 9) + "EE" + head("b", "", 4) + "EE", "((- c= -) a= (- b= -))"}, // places are not looked at
	} {
		if got := shape(mustRead(t, c.bytes)); got != c.want {
			t.Errorf("Read(%q) = %s, want %s", c.bytes, got, c.want)
		}
	}
}

func TestReadTellsHeights(t *testing.T) {
	for height := range 16 {
		if got := mustRead(t, head("k", "v", height)+"EE").node.Height; got != height {
			t.Errorf("a height of %d is read as %d", height, got)
		}
	}
}

func TestUnread(t *testing.T) {
	const k = "N\x01k\x01v\x02"
	long := 1 << 20
	for _, bytes := range []string{
		"", "X", "e", "n", "s", " ", "\x00", "EE", "E ", "S14dE", k + "EEE", k + "EES14d",
		"S", "S1", "S14", "S14D", "S14g", "S1 4", "S 14", "S14\x00", "S\xff\xff\xff", "S14:", "S/14", "S1`4", "S1é",
		"N", "N\x01", "N\x01k", "N\x01k\x01", "N\x01k\x01v", k, k + "E", k + "X", k + "EX", k + "ES14", k + "S14",
		"N\x00\x01v\x02EE", "N\x09nine99999\x01v\x02EE", "N\x01k\x15" + strings.Repeat("v", 21) + "\x02EE", "N\x01k\x01v\x10EE", "N\x01k\x01v\xffEE",
		"N\xffk\x01v\x02EE", "N\x01k\xffv\x02EE", "N\x08k\x01v\x02E", "N\x01k\x14v\x02EE", "N\xff" + strings.Repeat("k", 255) + "\x00\x00EE", "N\x01k\xff" + strings.Repeat("v", 255) + "\x00EE",
		strings.Repeat("N", long), strings.Repeat("S", long), strings.Repeat("E", long), strings.Repeat(k, long), strings.Repeat("\x00", long),
	} {
		tree, err := Read(bytes)
		var unread Unread
		if tree != (Tree{}) || !errors.As(err, &unread) {
			t.Errorf("Read(%.40q) = %s, %v", bytes, shape(tree), err)
		}
	}
}

// Wherever the nodes are, fifty are read and no more.
func TestFiftyNodes(t *testing.T) {
	for n := 48; n <= 52; n++ {
		k := head("k", "v", 2)
		full := "E"
		for range n {
			full = k + "S14d" + full
		}
		both := k + strings.Repeat(k+"E", n/2) + "E" + strings.Repeat(k+"E", n-n/2-1) + "E"
		for _, bytes := range []string{strings.Repeat(k, n) + strings.Repeat("E", n+1), strings.Repeat(k+"E", n) + "E", full, both} {
			if _, err := Read(bytes); (err == nil) != (n <= 50) {
				t.Errorf("an answer of %d nodes: %v", n, err)
			}
		}
	}
}
