package attest

import (
	"fmt"
	"strings"
	"testing"

	"attest/api"
)

// Two values of one sum, whatever stands before and behind them.
const (
	twinOne = "0\x05"
	twinTwo = "?\x99"
)

func wantExtract(t *testing.T, lo, hi, one, two, first, second string, want api.Errno) {
	t.Helper()
	for range 2 {
		if x, y, e := Extract(lo, hi, one, two); x != first || y != second || e != want {
			t.Errorf("Extract(%.20q, %.20q, %.200q, %.200q) = %q, %q, %d, want %q, %q, %d", lo, hi, one, two, x, y, e, first, second, want)
		}
	}
}

// The texts found, the other way round too.
func wantTexts(t *testing.T, lo, hi, one, two, first, second string) {
	t.Helper()
	wantExtract(t, lo, hi, one, two, first, second, api.OK)
	wantExtract(t, lo, hi, two, one, second, first, api.OK)
	if first == second || Sum(first) != Sum(second) {
		t.Errorf("%q and %q: the same, or of two sums", first, second)
	}
}

// P9: "the error that Check gives of one with the digest that it tells of
// itself (ErrKey, ErrRange, ErrBytes, ErrPlace); then of two; ErrProof, ..".
func TestP9ErrorsOfOneAheadOfTwo(t *testing.T) {
	a, b, c := threeNodes()
	answers := []struct {
		bytes string
		fault api.Errno
	}{
		{"", api.ErrBytes}, {"X", api.ErrBytes}, {"EE", api.ErrBytes}, {b + a + "S14dS14dS" + digestOfC + "E", api.ErrBytes}, {b + "S" + digestOfA + "X", api.ErrBytes},
		{node("", "", 0) + "EE", api.ErrBytes}, {strings.Repeat("N", 1<<20), api.ErrBytes}, {strings.Repeat(b, 51) + strings.Repeat("E", 52), api.ErrBytes},
		{"S" + bookOfThree, api.ErrPlace}, {b + "S" + digestOfA + "S" + digestOfC, api.ErrPlace}, {b + a + "EE" + c + "EE", api.ErrPlace}, {b + c + "S14dS14dS" + digestOfC, api.ErrPlace},
		{b + a + "S14dS14dS" + digestOfC, api.OK}, {b + a + "S14dS14dS000", api.OK}, {"E", api.OK},
	}
	for _, one := range answers {
		for _, two := range answers {
			want := one.fault
			switch {
			case want != api.OK:
			case two.fault != api.OK:
				want = two.fault
			case one.bytes == two.bytes:
				want = api.ErrSame
			default:
				want = api.ErrProof
			}
			wantExtract(t, "a", "a", one.bytes, two.bytes, "", "", want)
			wantExtract(t, "", "a", one.bytes, two.bytes, "", "", api.ErrKey)
			wantExtract(t, "b", "", one.bytes, two.bytes, "", "", api.ErrKey)
			wantExtract(t, "a", "nine99999", one.bytes, two.bytes, "", "", api.ErrKey)
			wantExtract(t, "nine99999", "a", one.bytes, two.bytes, "", "", api.ErrKey)
			wantExtract(t, "b", "a", one.bytes, two.bytes, "", "", api.ErrRange)
		}
	}
}

// P9: "ErrProof, if they tell of different digests".
func TestP9DifferentDigests(t *testing.T) {
	a, b, _ := threeNodes()
	good := b + a + "S14dS14dS" + digestOfC
	for _, other := range []string{
		"E", a + "S14dS14d", b + a + "S14dS14dS96f", b + node("a", "2", 1) + "S14dS14dS" + digestOfC, b + node("a", "1", 2) + "S14dS14dS" + digestOfC, b + "ES" + digestOfC, node("b", "2", 4) + a + "S14dS14dS" + digestOfC,
	} {
		wantExtract(t, "a", "a", good, other, "", "", api.ErrProof)
		wantExtract(t, "a", "a", other, good, "", "", api.ErrProof)
	}
}

// P9: "ErrSame, if one and two are the same bytes, or no two texts are found."
// (All that stands in an answer stands in a text of it: so of two that are well
// placed, those in which no two texts are found are the same bytes.)
func TestP9Same(t *testing.T) {
	for _, items := range [][]item{nil, {{"k", "v", 2}}, three(), oddItems(), fifty()} {
		b := filled(t, items)
		for _, q := range [][2]string{{"a", "a"}, {"b", "b"}, {"b", "c"}, {"k", "k"}, {"\x00", "\xff\xff"}} {
			answer, _ := b.Prove(q[0], q[1])
			wantExtract(t, q[0], q[1], answer, answer, "", "", api.ErrSame)
		}
	}
	// Two books, and in neither answer is there a text in which they differ.
	one := filled(t, []item{{"a", twinOne, 1}, {"b", "2", 3}, {"c", twinOne, 1}})
	two := filled(t, []item{{"a", twinTwo, 1}, {"b", "2", 3}, {"c", twinTwo, 1}})
	first, _ := one.Prove("b", "b")
	second, _ := two.Prove("b", "b")
	wantExtract(t, "b", "b", first, second, "", "", api.ErrSame)
}

// P9: "both answers are gone through at the same time, from the top: .. if
// their texts .. are not the same: these two texts; else first the trees to
// the left, then those to the right."
func TestP9FirstDifference(t *testing.T) {
	keys, heights := "abcdefg", [7]int{1, 2, 1, 3, 1, 2, 1} // d at the top, b and f below it, then a, c, e and g
	order := []int{3, 1, 0, 2, 5, 4, 6}                     // from the top, the left ahead of the right
	answerOf := func(differ int, value string) string {
		var items []item
		for i := range 7 {
			v := "same"
			if differ>>i&1 == 1 {
				v = value
			}
			items = append(items, item{keys[i : i+1], v, heights[i]})
		}
		return grown(items).answer("A", "z", nil, nil)
	}
	textAt := func(answer string, i int) string {
		for _, p := range piecesOf(t, answer) {
			if p.kind == 'N' && p.key == keys[i:i+1] {
				return p.text
			}
		}
		return ""
	}
	for differ := 1; differ < 128; differ++ {
		one, two := answerOf(differ, twinOne), answerOf(differ, twinTwo)
		for _, i := range order {
			if differ>>i&1 == 1 {
				wantTexts(t, "A", "z", one, two, textAt(one, i), textAt(two, i))
				break
			}
		}
	}
}

func piecesOf(t *testing.T, answer string) []*piece {
	t.Helper()
	list := pieces(answer)
	if list == nil {
		t.Fatalf("%q is no answer", answer)
	}
	joined(list)
	return list
}

// P9: "two trees that are both `S` tell nothing": though what they stand for
// is not the same, it is not seen, and a later difference is.
func TestP9BothDigestsAlone(t *testing.T) {
	one := filled(t, []item{{"a", twinOne, 1}, {"b", "2", 3}, {"c", "x" + twinOne, 1}})
	two := filled(t, []item{{"a", twinTwo, 1}, {"b", "2", 3}, {"c", "x" + twinTwo, 1}})
	for _, c := range []struct{ lo, hi, first, second string }{
		{"a", "a", node("a", twinOne, 1), node("a", twinTwo, 1)},
		{"c", "c", node("c", "x"+twinOne, 1), node("c", "x"+twinTwo, 1)},
		{"bb", "bc", node("c", "x"+twinOne, 1), node("c", "x"+twinTwo, 1)},
		{"a", "c", node("a", twinOne, 1), node("a", twinTwo, 1)},
	} {
		first, _ := one.Prove(c.lo, c.hi)
		second, _ := two.Prove(c.lo, c.hi)
		wantTexts(t, c.lo, c.hi, first, second, c.first+emptyDigest+emptyDigest, c.second+emptyDigest+emptyDigest)
	}
}

// P9: "their texts (`E`, or `N` with what stands behind and the two digests)":
// the digests of trees that are `S` are in the text of the node above them.
func TestP9DigestsAloneInTheTextAbove(t *testing.T) {
	b := node("b", "2", 3)
	seen := map[string]string{}
	found := 0
	for n := range 4096 {
		digits := fmt.Sprintf("%03x", n)
		text := b + digits + "abc"
		if other, there := seen[Sum(text)]; there {
			found++
			wantTexts(t, "b", "b", b+"S"+other+"Sabc", b+"S"+digits+"Sabc", b+other+"abc", text)
		}
		seen[Sum(text)] = digits
	}
	if found == 0 {
		t.Error("no two digests with which the text has one sum")
	}
}

// The same: where there is nothing in one, and a node in the other.
func TestP9EmptyAndNode(t *testing.T) {
	for _, height := range []int{0, 15} {
		k := ofDigest("k", height, emptyDigest, emptyDigest, emptyDigest)
		wantTexts(t, "a", "z", "E", k+"EE", "E", k+emptyDigest+emptyDigest)
		b := node("b", "2", 3)
		wantTexts(t, "a", "z", b+"EE", b+"E"+k+"EE", "E", k+emptyDigest+emptyDigest)
		wantTexts(t, "k", "k", b+"S14dE", b+"S14d"+k+"S14dS14d", "E", k+emptyDigest+emptyDigest)
	}
}

// P1: "Every call ends and none panics, at all numbers and strings (of any
// length)." "With an error every other result is nil or the empty string".
func TestP1P9OddArguments(t *testing.T) {
	k := node("k", "v", 2)
	answers := append(oddStrings(), "E", "S14d", k+"EE", k+"S14dS14d", k+"S14dE", strings.Repeat("N", 9<<20), strings.Repeat("S", 9<<20), strings.Repeat(k, 1<<20), strings.Repeat(k+"E", 1<<20))
	for _, lo := range oddStrings() {
		for _, hi := range oddStrings() {
			for _, one := range answers {
				for _, two := range answers {
					first, second, want := wantOfExtract(lo, hi, one, two)
					if x, y, e := Extract(lo, hi, one, two); x != first || y != second || e != want {
						t.Errorf("Extract(%.20q, %.20q, %.40q, %.40q) = %q, %q, %d, want %q, %q, %d", lo, hi, one, two, x, y, e, first, second, want)
					}
				}
			}
		}
	}
}

// P9 as a whole, held against the other way to judge.
func TestP9AnyAnswers(t *testing.T) {
	d := dice(9)
	seen := map[api.Errno]int{}
	for round := range 400 {
		items := d.items(round%51, 1+round%16)
		lo, hi := d.question(items)
		answer := grown(items).answer(lo, hi, nil, nil)
		for range 10 {
			one, two := answer, d.forged(answer, lo, hi)
			if d.below(3) == 0 {
				one = d.forged(answer, lo, hi)
			}
			switch d.below(8) {
			case 0:
				one = d.bent(one)
			case 1:
				two = d.bent(two)
			case 2:
				one, two = d.bent(one), d.bent(two)
			}
			first, second, want := wantOfExtract(lo, hi, one, two)
			wantExtract(t, lo, hi, one, two, first, second, want)
			first, second, want = wantOfExtract(lo, hi, two, one)
			wantExtract(t, lo, hi, two, one, first, second, want)
			seen[want]++
		}
	}
	for _, e := range []api.Errno{api.OK, api.ErrBytes, api.ErrPlace, api.ErrProof, api.ErrSame} {
		if seen[e] < 50 {
			t.Errorf("%d pairs of answers with %d: too few", seen[e], e)
		}
	}
}
