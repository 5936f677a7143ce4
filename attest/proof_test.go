package attest

import (
	"slices"
	"testing"

	"attest/api"
)

// P10: "So the answer of a book passes with its digest, and tells what the
// book has from lo to hi."
func wantHonest(t *testing.T, b *Book, lo, hi string) {
	t.Helper()
	answer, e := b.Prove(lo, hi)
	if e != api.OK {
		t.Fatalf("Prove(%q, %q) = %d", lo, hi, e)
	}
	wantCheck(t, b.Digest(), lo, hi, answer, pairsFrom(b, lo, hi), api.OK)
}

// P10, of books of none, one and many keys: questions in them, between their
// keys and beside them.
func TestP10AnswersPass(t *testing.T) {
	for _, items := range [][]item{nil, {{"k", "v", 2}}, {{"\x00", "", 0}}, {{"\xff\xff\xff\xff\xff\xff\xff\xff", "", 15}}, three(), oddItems(), fifty()} {
		b := filled(t, items)
		bounds := []string{"\x00", "\x00\x00", "A", "z", "\xff", "\xff\xff\xff\xff\xff\xff\xff\xff"}
		for _, x := range items {
			bounds = append(bounds, x.key)
			if len(x.key) < 8 {
				bounds = append(bounds, x.key+"\x00", x.key+"\xff") // behind it at once, and further off
			}
		}
		for _, lo := range bounds {
			for _, hi := range bounds {
				if lo <= hi {
					wantHonest(t, b, lo, hi)
				}
			}
		}
	}
}

func TestP10AnswersOfAnyBookPass(t *testing.T) {
	d := dice(10)
	for round := range 300 {
		items := d.items(round%51, 1+round%16)
		b := filled(t, items)
		for range 30 {
			lo, hi := d.question(items)
			wantHonest(t, b, lo, hi)
			wantHonest(t, b, lo, lo)
		}
	}
}

// P10: "they tell the same, or Extract of the book's answer and of these gives
// two texts that are not the same and have one sum": of two books that are the
// same but for two values of one sum.
func TestP10TwoBooks(t *testing.T) {
	for _, more := range []string{"", " and more"} {
		one := filled(t, []item{{"a", "1", 1}, {"b", "2", 3}, {"c", twinOne + more, 1}})
		two := filled(t, []item{{"a", "1", 1}, {"b", "2", 3}, {"c", twinTwo + more, 1}})
		if one.Digest() != two.Digest() {
			t.Fatalf("the books have the digests %q and %q", one.Digest(), two.Digest())
		}
		first, _ := one.Prove("b", "c")
		second, _ := two.Prove("b", "c")
		c, other := node("c", twinOne+more, 1), node("c", twinTwo+more, 1)
		b := node("b", "2", 3) + "S" + digestOfA
		if first != b+c+"ES14d" || second != b+other+"ES14d" {
			t.Errorf("the answers are %q and %q", first, second)
		}
		wantCheck(t, one.Digest(), "b", "c", first, pairsOf(item{"b", "2", 3}, item{"c", twinOne + more, 1}), api.OK)
		wantCheck(t, one.Digest(), "b", "c", second, pairsOf(item{"b", "2", 3}, item{"c", twinTwo + more, 1}), api.OK)
		wantTexts(t, "b", "c", first, second, c+emptyDigest+emptyDigest, other+emptyDigest+emptyDigest)

		// Where c does not matter, they tell the same, by the same bytes.
		first, _ = one.Prove("a", "b")
		second, _ = two.Prove("a", "b")
		wantCheck(t, one.Digest(), "a", "b", second, pairsOf(item{"a", "1", 1}, item{"b", "2", 3}), api.OK)
		wantExtract(t, "a", "b", first, second, "", "", api.ErrSame)
	}
}

// P10: "Of any bytes that pass with this digest for this question: they tell
// the same, or Extract of the book's answer and of these gives two texts that
// are not the same and have one sum."
func TestP10ForgedAnswersAreShown(t *testing.T) {
	d := dice(11)
	lies := 0
	for round := range 300 {
		items := d.items(round%51, 1+round%16)
		b := filled(t, items)
		lo, hi := d.question(items)
		answer, _ := b.Prove(lo, hi)
		for range 10 {
			other := d.forged(answer, lo, hi)
			if d.below(3) == 0 {
				other = d.forged(other, lo, hi)
			}
			pairs, e := Check(b.Digest(), lo, hi, other)
			if e != api.OK {
				continue
			}
			x, y, e := Extract(lo, hi, answer, other)
			if shown := e == api.OK && x != y && plainSum(x) == plainSum(y); shown == (other == answer) {
				t.Errorf("the answer %q and the other %q: Extract = %q, %q, %d", answer, other, x, y, e)
			}
			if !slices.Equal(pairs, pairsFrom(b, lo, hi)) {
				lies++
			}
		}
	}
	if lies < 500 {
		t.Errorf("%d forged answers that tell something else: too few", lies)
	}
}

// P10: a single byte of an answer is changed: it is refused, or tells the same,
// or is shown.
func TestP10ChangedBytes(t *testing.T) {
	for _, items := range [][]item{{{"k", "v", 2}}, three(), oddItems()} {
		b := filled(t, items)
		for _, q := range [][2]string{{"a", "a"}, {"b", "c"}, {"k", "k"}, {"\x00", "\xff\xff"}} {
			answer, _ := b.Prove(q[0], q[1])
			for i := range answer {
				for n := range 256 {
					other := answer[:i] + string([]byte{byte(n)}) + answer[i+1:]
					pairs, want := wantOfCheck(b.Digest(), q[0], q[1], other)
					wantCheck(t, b.Digest(), q[0], q[1], other, pairs, want)
					if want == api.OK && other != answer {
						first, second, _ := wantOfExtract(q[0], q[1], answer, other)
						wantTexts(t, q[0], q[1], answer, other, first, second)
					}
				}
			}
		}
	}
}

// The document's examples that speak of an answer: each passes with the digest
// of its book.
func TestExamplesPass(t *testing.T) {
	none := New()
	answer, _ := none.Prove("a", "b")
	wantCheck(t, "14d", "a", "b", answer, nil, api.OK)

	// "With the key `k`, value `v`, height 2 alone: .. The answer to k, k is
	// `N`, 1 `k`, 1 `v`, 2, `S14d`, `S14d` ..; to a, b: `N`, 1 `k`, 1 `v`, 2,
	// `E`, `S14d`".
	one := filled(t, []item{{"k", "v", 2}})
	wantCheck(t, one.Digest(), "k", "k", "N\x01k\x01v\x02S14dS14d", pairsOf(item{"k", "v", 2}), api.OK)
	wantCheck(t, one.Digest(), "a", "b", "N\x01k\x01v\x02ES14d", nil, api.OK)

	// "With b, height 3, and a and c, height 1: the answer to a, a is `N` with
	// b, `N` with a, `S14d`, `S14d`, and `S` with the digest of c's tree; to a,
	// az it is `N` with b, `N` with a, `S14d`, `E` .., and the same `S`."
	book := filled(t, three())
	a, b, c := threeNodes()
	rest := "S" + Sum(c+"14d14d")
	wantCheck(t, book.Digest(), "a", "a", b+a+"S14dS14d"+rest, pairsOf(item{"a", "1", 1}), api.OK)
	wantCheck(t, book.Digest(), "a", "az", b+a+"S14dE"+rest, pairsOf(item{"a", "1", 1}), api.OK)
	wantCheck(t, book.Digest(), "a", "a", b+a+"S14dE"+rest, nil, api.ErrPlace)
	wantCheck(t, book.Digest(), "a", "az", b+a+"S14dS14d"+rest, nil, api.ErrPlace)
}
