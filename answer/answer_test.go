package answer

import (
	"errors"
	"fmt"
	"testing"

	"attest/api"
	"attest/question"
	"attest/sum"
)

const empty = "14d" // the digest of an empty tree

func TestDigest(t *testing.T) {
	a, c := head("a", "1", 1), head("c", "3", 1)
	for _, x := range []struct{ bytes, want string }{
		{"E", empty},
		{"Sabc", "abc"},
		{"Sfff", "fff"},
		{head("k", "v", 2) + "EE", "dca"},
		{head("k", "v", 2) + "S14dE", "dca"},
		{head("k", "v", 2) + "S000Sfff", sum.Of(head("k", "v", 2) + "000fff")},
		{head("b", "2", 3) + a + "EE" + c + "EE", "214"},
		{head("b", "2", 3) + "S546" + c + "ES14d", "214"},
		{head("b", "2", 3) + a + "S14dES96e", "214"},
	} {
		if got := mustRead(t, x.bytes).Digest(); got != x.want {
			t.Errorf("of %q: %s, want %s", x.bytes, got, x.want)
		}
	}
}

func TestFault(t *testing.T) {
	a, b, c := head("a", "1", 1), head("b", "2", 3), head("c", "3", 1)
	for _, x := range []struct {
		lo, hi, bytes string
		placed        bool
	}{
		{"a", "z", "E", true},
		{"a", "z", "S14d", false},
		{"b", "b", b + "S546S96e", true},
		{"b", "b", b + "ES96e", false},
		{"b", "b", b + "S546E", false},
		{"b", "b", b + a + "S14dS14dS96e", false},
		{"b", "c", b + "S546" + c + "ES14d", true},
		{"b", "c", b + "S546" + c + "EE", false},
		{"b", "c", b + "S546" + b + "ES14d", false},
		{"b", "c", b + "S546" + a + "ES14d", false},
		{"A", "z", b + a + "EE" + c + "EE", true},
		{"A", "z", b + a + "E" + head("aa", "", 0) + "EE" + c + "EE", true},
		{"A", "z", b + a + "E" + head("bb", "", 0) + "EE" + c + "EE", false}, // above b, two nodes further up
		{"A", "z", b + a + "EE" + c + head("aa", "", 0) + "EEE", false},
	} {
		err := mustRead(t, x.bytes).Fault(question.Question{Lo: x.lo, Hi: x.hi})
		var misplaced Misplaced
		if x.placed && err != nil || !x.placed && !errors.As(err, &misplaced) {
			t.Errorf("%q as an answer to %q, %q: %v", x.bytes, x.lo, x.hi, err)
		}
	}
}

func TestPairs(t *testing.T) {
	tree := mustRead(t, head("b", "2", 3)+head("a", "1", 1)+"EE"+head("c", "3", 1)+"EE")
	for _, x := range []struct{ lo, hi, want string }{
		{"A", "z", "[{a 1} {b 2} {c 3}]"}, {"a", "c", "[{a 1} {b 2} {c 3}]"}, {"aa", "c", "[{b 2} {c 3}]"}, {"a", "bz", "[{a 1} {b 2}]"},
		{"b", "b", "[{b 2}]"}, {"aa", "az", "[]"}, {"A", "Z", "[]"}, {"d", "z", "[]"}, {"b\x00", "c", "[{c 3}]"},
	} {
		if got := fmt.Sprint(tree.Pairs(question.Question{Lo: x.lo, Hi: x.hi})); got != x.want {
			t.Errorf("to %q, %q: %s, want %s", x.lo, x.hi, got, x.want)
		}
	}
}

func TestPairsAreNew(t *testing.T) {
	tree, q := mustRead(t, head("b", "2", 3)+head("a", "1", 1)+"EE"+"E"), question.Question{Lo: "A", Hi: "z"}
	first, second := tree.Pairs(q), tree.Pairs(q)
	all := first[:cap(first)]
	for i := range all {
		all[i] = api.Pair{Key: "other"}
	}
	if want := "[{a 1} {b 2}]"; fmt.Sprint(second) != want || fmt.Sprint(tree.Pairs(q)) != want {
		t.Errorf("a list was changed through another: %v, %v", second, tree.Pairs(q))
	}
}

func TestDiffer(t *testing.T) {
	a, b, c := head("a", "1", 1), head("b", "2", 3), head("c", "3", 1)
	x, y := head("a", "x", 1), head("c", "y", 1)
	for _, p := range []struct{ one, two, first, second string }{
		{"E", "E", "", ""},
		{"S123", "S456", "", ""},
		{"E", a + "EE", "E", a + empty + empty},
		{a + "EE", "E", a + empty + empty, "E"},
		{b + "S123S456", b + "S123S456", "", ""},
		{b + "S123S456", b + "S123S457", b + "123456", b + "123457"},
		{b + a + "EE" + c + "EE", b + a + "EE" + c + "EE", "", ""},
	} {
		first, second, found := Differ(mustRead(t, p.one), mustRead(t, p.two))
		if first != p.first || second != p.second || found != (p.first != "") {
			t.Errorf("Differ(%q, %q) = %q, %q, %v", p.one, p.two, first, second, found)
		}
	}
	// Below the tops, by values of one sum: the left ahead of the right.
	low, high := head("a", "0\x05", 1), head("a", "?\x99", 1)
	lower, higher := head("c", "0\x05", 1), head("c", "?\x99", 1)
	for _, p := range []struct{ one, two, first, second string }{
		{b + low + "EE" + c + "EE", b + high + "EE" + c + "EE", low, high},
		{b + a + "EE" + lower + "EE", b + a + "EE" + higher + "EE", lower, higher},
		{b + low + "EE" + lower + "EE", b + high + "EE" + higher + "EE", low, high},
		{b + "S123" + higher + "EE", b + "S123" + lower + "EE", higher, lower},
	} {
		first, second, found := Differ(mustRead(t, p.one), mustRead(t, p.two))
		if first != p.first+empty+empty || second != p.second+empty+empty || !found {
			t.Errorf("Differ(%q, %q) = %q, %q, %v", p.one, p.two, first, second, found)
		}
	}
	// The texts of the tops are not the same, for the digests below them are not.
	one, two := mustRead(t, b+a+"EE"+c+"EE"), mustRead(t, b+x+"EE"+y+"EE")
	first, second, found := Differ(one, two)
	if first != b+"546"+"96e" || second != b+sum.Of(x+empty+empty)+sum.Of(y+empty+empty) || !found {
		t.Errorf("Differ = %q, %q, %v", first, second, found)
	}
}
