package attest

import (
	"fmt"
	"slices"
	"strings"
	"testing"

	"attest/api"
)

// How a node begins, in its text and in an answer.
func node(key, value string, height int) string {
	return "N" + string([]byte{byte(len(key))}) + key + string([]byte{byte(len(value))}) + value + string([]byte{byte(height)})
}

func wantCheck(t *testing.T, digest, lo, hi, answer string, pairs []api.Pair, want api.Errno) {
	t.Helper()
	for range 2 {
		if got, e := Check(digest, lo, hi, answer); !slices.Equal(got, pairs) || e != want {
			t.Errorf("Check(%.20q, %.20q, %.20q, %.200q) = %q, %d, want %q, %d", digest, lo, hi, answer, got, e, pairs, want)
		}
	}
}

// An answer that is refused, whatever the digest is.
func wantRefused(t *testing.T, lo, hi, answer string, want api.Errno) {
	t.Helper()
	for _, digest := range []string{"14d", "214", ""} {
		wantCheck(t, digest, lo, hi, answer, nil, want)
	}
}

const (
	emptyDigest = "14d"
	bookOfThree = "214"
	digestOfA   = "546"
	digestOfC   = "96e"
)

func three() []item {
	return []item{{"a", "1", 1}, {"b", "2", 3}, {"c", "3", 1}}
}

func threeNodes() (a, b, c string) {
	return node("a", "1", 1), node("b", "2", 3), node("c", "3", 1)
}

func pairsOf(items ...item) []api.Pair {
	var list []api.Pair
	for _, x := range items {
		list = append(list, api.Pair{Key: x.key, Value: x.value})
	}
	return list
}

// P1: "Where several errors apply, the answer is the one named first." P8:
// "ErrKey; ErrRange; ErrBytes, .. ErrPlace, .. ErrProof, ..". Each case has
// all that is named behind its error too.
func TestP8FirstErrorOfSeveral(t *testing.T) {
	a, b, _ := threeNodes()
	const long = "nine99999"
	misplaced := b + "S" + digestOfA + "E"    // to a, a: another digest, too
	unread := misplaced + "E"                 // misplaced, too
	proofless := b + a + "S14dS14dS" + "fff"  // well placed for a, a
	unreadBehind := b + "S" + digestOfA + "X" // the fault of its place stands ahead
	for _, c := range []struct {
		lo, hi, answer string
		want           api.Errno
	}{
		{"", "a", unread, api.ErrKey}, {long, "a", unread, api.ErrKey}, {"a", "", unread, api.ErrKey}, {"z", "", unread, api.ErrKey}, {"z", long, unread, api.ErrKey},
		{"", "", unread, api.ErrKey}, {"", long, unread, api.ErrKey}, {long, "a", misplaced, api.ErrKey}, {"", "a", proofless, api.ErrKey}, {"", "a", "", api.ErrKey},
		{"b", "a", unread, api.ErrRange}, {"b", "a", misplaced, api.ErrRange}, {"b", "a", proofless, api.ErrRange}, {"b", "a", "", api.ErrRange}, {"a\x00", "a", "X", api.ErrRange},
		{"a", "a", unread, api.ErrBytes}, {"a", "a", unreadBehind, api.ErrBytes}, {"a", "a", proofless + "E", api.ErrBytes}, {"a", "a", "S" + bookOfThree + "E", api.ErrBytes},
		{"a", "a", misplaced, api.ErrPlace}, {"a", "b", proofless, api.ErrPlace}, {"a", "a", "S" + bookOfThree, api.ErrPlace},
		{"a", "a", proofless, api.ErrProof},
	} {
		wantCheck(t, bookOfThree, c.lo, c.hi, c.answer, nil, c.want)
	}
}

// P8: "ErrBytes, if the answer is not read to its end by these rules: a tree
// is `S` and three digits as in a sum (any three of these), `E`, or `N`, X of
// a key, X of a value, a height, and two trees; .. and nothing stands behind."
func TestP8Bytes(t *testing.T) {
	k := node("k", "v", 2)
	for _, answer := range []string{
		"", "X", "e", "s", "n", " ", "\x00", "\xff", " E", "E ", "E\x00", "EE", "ES14d", "E" + k + "EE",
		k, k + "E", k + "S14d", k + "EX", k + "XE", k + "EEE", k + "EE\x00", k + "EES14d", k + "EE" + k + "EE", k + "S14dS14d ",
	} {
		wantRefused(t, "a", "z", answer, api.ErrBytes)
	}
}

// P8: "a tree is .. `N`, X of a key, X of a value, a height, and two trees".
func TestP8BytesOfANode(t *testing.T) {
	v := strings.Repeat("v", 255)
	for _, answer := range []string{
		node("", "v", 2) + "EE", node("nine99999", "v", 2) + "EE", node(v, "v", 2) + "EE",
		node("k", v[:21], 2) + "EE", node("k", v[:22], 2) + "EE", node("k", v, 2) + "EE",
		node("k", "v", 16) + "EE", node("k", "v", 17) + "EE", "N\x01k\x01v\xffEE", "N\x01k\x01v\x80EE",
		"N", "N\x01", "N\x01k", "N\x01k\x01", "N\x01k\x01v", "N\x00", "N\x00\x00\x00EE",
		"N\x08k\x01v\x02E", "N\x08k\x01v\x02EE", "N\xffk\x01v\x02EE", "N\x01k\x14v\x02EE", "N\x01k\x07v\x02EE", "N\x01k\xffv\x02EE", // lengths that run over the end
	} {
		wantRefused(t, "a", "z", answer, api.ErrBytes)
	}
	for _, answer := range []string{
		node("k", "v", 2), node("eight888", v[:20], 15), node("k", "", 0), node("\x00\x00", "\x00", 0), node("\xff\xff", "\xc3\xa4\x80", 15), node("N", "E", 3), node("S14d", "N\x01k", 3),
	} {
		wantCheck(t, Sum(answer+emptyDigest+emptyDigest), "\x00", "\xff\xff\xff", answer+"EE", pairsOf(joined(pieces(answer+"EE")).item), api.OK)
	}
}

// P8: "`S` and three digits as in a sum (any three of these)".
func TestP8BytesOfADigestAlone(t *testing.T) {
	k := node("k", "v", 2)
	for _, alone := range []string{
		"S", "S1", "S14", "S14D", "SABC", "S14g", "S1 4", "S 14", "S\x00\x00\x00", "S\xff\xff\xff", "S14/", "S14:", "S14@", "S14`", "S1\xc3\xa4", "S+14", "S0x1", "s14d", "S14d0", "SE",
	} {
		wantRefused(t, "k", "k", k+"S14d"+alone, api.ErrBytes)
		wantRefused(t, "k", "k", k+alone+"S14d", api.ErrBytes)
		wantRefused(t, "k", "k", alone, api.ErrBytes)
	}
	for n := range 4096 {
		digits := fmt.Sprintf("%03x", n)
		wantCheck(t, Sum(k+digits+"fff"), "k", "k", k+"S"+digits+"Sfff", pairsOf(item{"k", "v", 2}), api.OK)
		wantCheck(t, Sum(k+"ffe"+digits), "k", "k", k+"SffeS"+digits, pairsOf(item{"k", "v", 2}), api.OK)
	}
}

// P8: "ErrBytes, if the answer is not read to its end": one that is cut short
// at any of its places, and one with something behind its end.
func TestP8CutShortAndLengthened(t *testing.T) {
	for _, items := range [][]item{nil, {{"k", "v", 2}}, three(), oddItems(), fifty()} {
		b := filled(t, items)
		for _, q := range [][2]string{{"a", "a"}, {"b", "c"}, {"k", "k"}, {"\x00", "\xff\xff"}} {
			answer, _ := b.Prove(q[0], q[1])
			for i := range answer {
				wantCheck(t, b.Digest(), q[0], q[1], answer[:i], nil, api.ErrBytes)
			}
			for _, more := range []string{"E", "S14d", "N", "\x00", " ", "\n", answer, strings.Repeat("E", 100000)} {
				wantCheck(t, b.Digest(), q[0], q[1], answer+more, nil, api.ErrBytes)
			}
		}
	}
}

// P8: "there are at most 50 `N`".
func TestP8FiftyNodes(t *testing.T) {
	for n := 48; n <= 53; n++ {
		var items []item
		for i := range n {
			items = append(items, item{string([]byte{byte(100 + i)}), "", 1})
		}
		falling, rising := strings.Repeat("E", n+1), "E"
		for _, x := range items {
			falling = node(x.key, "", 1) + falling
		}
		for _, x := range slices.Backward(items) {
			rising = node(x.key, "", 1) + "E" + rising
		}
		for _, answer := range []string{falling, rising} {
			if n > 50 {
				wantRefused(t, "\x00", "\xff", answer, api.ErrBytes)
				wantRefused(t, "\xff", "\xff", answer, api.ErrBytes) // misplaced, too
				continue
			}
			wantCheck(t, joined(pieces(answer)).digest, "\x00", "\xff", answer, pairsOf(items...), api.OK)
			wantRefused(t, "\xff", "\xff", answer, api.ErrPlace)
		}
	}
}

// P8: "ErrPlace, if the key of a node does not lie between the bounds that it
// has in the answer": those may be keys of nodes far above it.
func TestP8KeysBetweenBounds(t *testing.T) {
	n := func(key string) string { return node(key, "", 1) }
	for _, c := range []struct {
		answer string
		want   api.Errno
	}{
		{n("k") + n("j") + "EEE", api.OK}, {n("k") + n("k") + "EEE", api.ErrPlace}, {n("k") + n("l") + "EEE", api.ErrPlace}, {n("k") + n("k\x00") + "EEE", api.ErrPlace},
		{n("k") + "E" + n("l") + "EE", api.OK}, {n("k") + "E" + n("k") + "EE", api.ErrPlace}, {n("k") + "E" + n("j") + "EE", api.ErrPlace}, {n("k") + "E" + n("k\x00") + "EE", api.OK},
		// To the right of e, to the left of k.
		{n("k") + n("e") + "E" + n("g") + "EEE", api.OK}, {n("k") + n("e") + "E" + n("k") + "EEE", api.ErrPlace}, {n("k") + n("e") + "E" + n("m") + "EEE", api.ErrPlace}, {n("k") + n("e") + "E" + n("e") + "EEE", api.ErrPlace},
		// To the left of p, to the right of k.
		{n("k") + "E" + n("p") + n("m") + "EEE", api.OK}, {n("k") + "E" + n("p") + n("k") + "EEE", api.ErrPlace}, {n("k") + "E" + n("p") + n("e") + "EEE", api.ErrPlace}, {n("k") + "E" + n("p") + n("p") + "EEE", api.ErrPlace},
		// Three nodes further down, to the right each time, below k still.
		{n("k") + n("b") + "E" + n("c") + "E" + n("d") + "E" + n("e") + "EEE", api.OK},
		{n("k") + n("b") + "E" + n("c") + "E" + n("d") + "E" + n("l") + "EEE", api.ErrPlace},
		{n("k") + n("b") + "E" + n("c") + "E" + n("d") + "E" + n("k") + "EEE", api.ErrPlace},
		// To the left each time, above k still.
		{n("k") + "E" + n("r") + n("q") + n("p") + n("o") + "EEEEE", api.OK},
		{n("k") + "E" + n("r") + n("q") + n("p") + n("j") + "EEEEE", api.ErrPlace},
		{n("k") + "E" + n("r") + n("q") + n("p") + n("k") + "EEEEE", api.ErrPlace},
		// Bounds from two different nodes, neither of them the next above.
		{n("k") + n("b") + "E" + n("g") + n("e") + n("c") + "EEEEE", api.OK},
		{n("k") + n("b") + "E" + n("g") + n("e") + n("a") + "EEEEE", api.ErrPlace},
		{n("k") + n("b") + "E" + n("c") + "E" + n("e") + n("f") + "EEEE", api.ErrPlace},
		// Bytes from 0x80 on are above those below it.
		{n("\x80") + n("\x7f") + "EEE", api.OK}, {n("\x80") + "E" + n("\x7f") + "EE", api.ErrPlace}, {n("\x7f") + "E" + n("\x80") + "EE", api.OK},
	} {
		top := joined(pieces(c.answer))
		if c.want == api.OK {
			wantCheck(t, top.digest, "\x00", "\xff", c.answer, top.pairs("\x00", "\xff"), api.OK)
		} else {
			wantCheck(t, top.digest, "\x00", "\xff", c.answer, nil, c.want)
		}
	}
}

// P8: "or there is `S` for a tree that matters to the question". "It MATTERS
// to the question, if there is no a, or a is below hi; and there is no b, or
// lo is below b."
func TestP8DigestAloneForWhatMatters(t *testing.T) {
	a, b, c := threeNodes()
	for _, x := range []struct{ lo, hi, answer string }{
		{"a", "z", "S" + bookOfThree}, {"z", "z", "S" + bookOfThree}, {"\x00", "\x00", "S14d"},
		{"a", "a", b + "S" + digestOfA + "S" + digestOfC}, {"aa", "aa", b + "S" + digestOfA + "S" + digestOfC}, {"bb", "bb", b + "S" + digestOfA + "S" + digestOfC},
		{"b", "c", b + "S" + digestOfA + "S" + digestOfC}, {"a", "c", b + "S" + digestOfA + c + "ES14d"}, {"a", "c", b + a + "S14dE" + "S" + digestOfC},
		{"a", "az", b + a + "S14dS14dS" + digestOfC}, {"Z", "a", b + a + "S14dS14dS" + digestOfC}, {"a", "b", b + a + "S14dS14dS" + digestOfC},
		{"c", "d", b + "S" + digestOfA + c + "S14dS14d"}, {"b", "c", b + "S" + digestOfA + c + "S14dS14d"},
	} {
		wantCheck(t, bookOfThree, x.lo, x.hi, x.answer, nil, api.ErrPlace)
	}
}

// P8: "or anything else for one that does not": `N` or `E`, at the edges of
// the question too, and though what stands there is true.
func TestP8MoreForWhatDoesNotMatter(t *testing.T) {
	a, b, c := threeNodes()
	for _, x := range []struct{ lo, hi, answer string }{
		{"b", "b", b + a + "S14dS14d" + "S" + digestOfC}, {"b", "b", b + a + "EES" + digestOfC}, {"b", "b", b + "S" + digestOfA + c + "EE"}, {"b", "b", b + "S" + digestOfA + c + "S14dS14d"},
		{"a", "a", b + a + "ES14dS" + digestOfC}, {"a", "a", b + a + "S14dES" + digestOfC}, {"a", "a", b + a + "EES" + digestOfC},
		{"a", "b", b + a + "S14dE" + c + "EE"}, {"a", "b", b + a + "EES" + digestOfC}, {"b", "c", b + a + "EE" + c + "ES14d"}, {"b", "c", b + "S" + digestOfA + c + "EE"},
		{"a", "c", b + a + "EE" + c + "EE"}, {"d", "e", b + a + "EE" + c + "EE"},
	} {
		wantCheck(t, bookOfThree, x.lo, x.hi, x.answer, nil, api.ErrPlace)
	}
	k := node("k", "v", 2)
	wantCheck(t, "dca", "k", "k", k+"EE", nil, api.ErrPlace)
	wantCheck(t, "dca", "k", "k", k+"ES14d", nil, api.ErrPlace)
	wantCheck(t, "dca", "k", "k", k+"S14dE", nil, api.ErrPlace)
	wantCheck(t, "dca", "a", "b", k+"EE", nil, api.ErrPlace)
	wantCheck(t, "dca", "l", "m", k+"EE", nil, api.ErrPlace)
}

// P8: "ErrProof, if the digest that it tells of is not this digest".
func TestP8AnotherDigest(t *testing.T) {
	for _, items := range [][]item{nil, {{"k", "v", 2}}, three(), oddItems(), fifty()} {
		b := filled(t, items)
		answer, _ := b.Prove("a", "k2")
		digest := b.Digest()
		for n := range 4096 {
			if other := fmt.Sprintf("%03x", n); other != digest {
				wantCheck(t, other, "a", "k2", answer, nil, api.ErrProof)
			}
		}
		for _, other := range []string{"", digest[:2], digest + "0", " " + digest, digest + " ", strings.ToUpper(digest) + "D", "S" + digest, digest + "\x00", strings.Repeat(digest, 1<<20)} {
			wantCheck(t, other, "a", "k2", answer, nil, api.ErrProof)
		}
	}
}

// P8: "that of `S` is what stands there, that of `E` the sum of `E`, that of
// `N` the sum of the text with its key, value and height, and the digests of
// its two trees."
func TestP8TheDigestHangsOnAllThatStandsThere(t *testing.T) {
	a, b, c := threeNodes()
	wantCheck(t, bookOfThree, "a", "a", b+a+"S14dS14dS"+digestOfC, pairsOf(item{"a", "1", 1}), api.OK)
	for _, answer := range []string{
		node("b", "3", 3) + a + "S14dS14dS" + digestOfC, node("b", "", 3) + a + "S14dS14dS" + digestOfC, node("b", "2", 4) + a + "S14dS14dS" + digestOfC, node("bb", "2", 3) + a + "S14dS14dS" + digestOfC,
		b + node("a", "2", 1) + "S14dS14dS" + digestOfC, b + node("a", "1", 2) + "S14dS14dS" + digestOfC,
		b + a + "S14eS14dS" + digestOfC, b + a + "S14dS14cS" + digestOfC, b + a + "S14dS14dS96f", b + a + "S14dS14dS14d",
		b + "ES" + digestOfC, "E",
	} {
		wantCheck(t, bookOfThree, "a", "a", answer, nil, api.ErrProof)
		wantCheck(t, joined(pieces(answer)).digest, "a", "a", answer, joined(pieces(answer)).pairs("a", "a"), api.OK)
	}
	// The left and the right one are not the same.
	wantCheck(t, Sum(b+"123456"), "b", "b", b+"S123S456", pairsOf(item{"b", "2", 3}), api.OK)
	wantCheck(t, Sum(b+"123456"), "b", "b", b+"S456S123", nil, api.ErrProof)
	wantCheck(t, Sum(b+"14d"+digestOfC), "b", "c", b+"S14d"+c+"ES14d", pairsOf(item{"b", "2", 3}, item{"c", "3", 1}), api.OK)
}

// P8: "Else it PASSES: the pairs of its nodes whose keys are from lo to hi, by
// rising keys." What it shows outside of that is left out.
func TestP8Pairs(t *testing.T) {
	a, b, c := item{"a", "1", 1}, item{"b", "2", 3}, item{"c", "3", 1}
	book := filled(t, three())
	for _, x := range []struct {
		lo, hi string
		want   []item
	}{
		{"a", "a", []item{a}}, {"a", "az", []item{a}}, {"a", "b", []item{a, b}}, {"a", "c", []item{a, b, c}}, {"\x00", "\xff", []item{a, b, c}},
		{"b", "b", []item{b}}, {"aa", "bz", []item{b}}, {"b", "c", []item{b, c}}, {"bb", "c", []item{c}}, {"c", "c", []item{c}}, {"c", "z", []item{c}},
		{"aa", "ab", nil}, {"bb", "bz", nil}, {"Z", "Z", nil}, {"d", "z", nil}, {"a\x00", "a\xff", nil},
	} {
		answer, _ := book.Prove(x.lo, x.hi)
		wantCheck(t, bookOfThree, x.lo, x.hi, answer, pairsOf(x.want...), api.OK)
	}
	wantCheck(t, emptyDigest, "a", "z", "E", nil, api.OK)
	wantCheck(t, emptyDigest, "z", "z", "E", nil, api.OK)
}

// P8 names no other rule: heights that no tree of a book has so do not matter.
func TestP8HeightsAreNotPlaces(t *testing.T) {
	for _, heights := range [][3]int{{3, 1, 3}, {1, 1, 1}, {15, 0, 15}, {0, 15, 0}} {
		answer := node("b", "2", heights[1]) + node("a", "1", heights[0]) + "EE" + node("c", "3", heights[2]) + "EE"
		wantCheck(t, joined(pieces(answer)).digest, "A", "z", answer, pairsOf(three()...), api.OK)
	}
}

// P1: "Every call ends and none panics, at all numbers and strings (of any
// length)." "With an error every other result is nil or the empty string".
func TestP1P8OddArguments(t *testing.T) {
	k := node("k", "v", 2)
	answers := append(oddStrings(), "E", "S14d", k+"EE", k+"S14dS14d", k+"S14dE", strings.Repeat("N", 9<<20), strings.Repeat("S", 9<<20), strings.Repeat("E", 9<<20),
		strings.Repeat(k, 1<<20), strings.Repeat(k+"E", 1<<20), strings.Repeat(k+"S14d", 1<<20), "E"+strings.Repeat("\x00", 9<<20))
	for _, digest := range append(oddStrings(), emptyDigest, "dca") {
		for _, lo := range oddStrings() {
			for _, hi := range oddStrings() {
				for _, answer := range answers {
					pairs, want := wantOfCheck(digest, lo, hi, answer)
					got, e := Check(digest, lo, hi, answer)
					if !slices.Equal(got, pairs) || e != want || want != api.OK && got != nil {
						t.Errorf("Check(%.20q, %.20q, %.20q, %.40q) = %q, %d, want %q, %d", digest, lo, hi, answer, got, e, pairs, want)
					}
				}
			}
		}
	}
}

// P2: "An answer is new memory, spare room too: lists that come out are the
// caller's, who may write into them; no later answer is changed by that."
func TestP2P8ListsAreTheCallers(t *testing.T) {
	b := filled(t, fifty())
	answer, _ := b.Prove("k2", "k4")
	digest, want := b.Digest(), pairsFrom(b, "k2", "k4")
	first, _ := Check(digest, "k2", "k4", answer)
	second, _ := Check(digest, "k2", "k4", answer)
	all := first[:cap(first)]
	for i := range all {
		all[i] = api.Pair{Key: "other", Value: "other"}
	}
	_ = append(first[:1], api.Pair{Key: "more", Value: "more"})
	if !slices.Equal(second, want) {
		t.Errorf("a list that is out was changed by writing into another: %q", second)
	}
	wantCheck(t, digest, "k2", "k4", answer, want, api.OK)
	put(t, b, "k30", "new", 15)
	b.Delete("k31")
	if !slices.Equal(second, want) {
		t.Errorf("a list that is out was changed by a Put or a Delete: %q", second)
	}
	wantCheck(t, digest, "k2", "k4", answer, want, api.OK)
}

func pairsFrom(b *Book, lo, hi string) []api.Pair {
	return slices.DeleteFunc(b.All(), func(p api.Pair) bool { return p.Key < lo || hi < p.Key })
}

// The errors in the face: one of no known kind lets nothing pass.
func TestP8ErrorOfNoKnownKind(t *testing.T) {
	if errno(fmt.Errorf("another")) == api.OK {
		t.Error("an answer with an error would pass")
	}
}

// P8 as a whole, held against the other way to judge: answers of books, with
// something changed in them, to their question or another, and any bytes.
func TestP8AnyAnswer(t *testing.T) {
	d := dice(8)
	seen := map[api.Errno]int{}
	for round := range 800 {
		items := d.items(round%51, 1+round%16)
		lo, hi := d.question(items)
		answer := grown(items).answer(lo, hi, nil, nil)
		for range 20 {
			bent := d.bent(answer)
			if d.below(3) == 0 {
				bent = d.anyAnswer(lo, hi)
			}
			lo, hi := lo, hi
			if d.below(8) == 0 {
				lo, hi = d.question(items)
			}
			digest := grown(items).digest()
			if top, e := judged(lo, hi, bent); e == api.OK && d.below(4) > 0 {
				digest = top.digest
			}
			pairs, want := wantOfCheck(digest, lo, hi, bent)
			wantCheck(t, digest, lo, hi, bent, pairs, want)
			seen[want]++
		}
	}
	for _, e := range []api.Errno{api.OK, api.ErrBytes, api.ErrPlace, api.ErrProof} {
		if seen[e] < 1000 {
			t.Errorf("%d answers with %d: too few", seen[e], e)
		}
	}
}
