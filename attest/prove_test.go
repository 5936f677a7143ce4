package attest

import (
	"strings"
	"testing"

	"attest/api"
)

func wantProof(t *testing.T, b *Book, lo, hi, want string) {
	t.Helper()
	for range 2 {
		if got, e := b.Prove(lo, hi); got != want || e != api.OK {
			t.Errorf("Prove(%q, %q) of %s= %q, %d, want %q", lo, hi, inside(b), got, e, want)
		}
	}
}

func TestP7EmptyBook(t *testing.T) {
	b := New()
	for _, q := range [][2]string{{"a", "a"}, {"a", "b"}, {"\x00", "\xff"}, {"eight888", "eight888"}} {
		wantProof(t, b, q[0], q[1], "E")
	}
	put(t, b, "k", "v", 2)
	b.Delete("k")
	wantProof(t, b, "k", "k", "E")
}

func TestP7OneKey(t *testing.T) {
	b := filled(t, []item{{"k", "v", 2}})
	const k = "N\x01k\x01v\x02"
	for _, c := range []struct{ lo, hi, want string }{
		{"k", "k", k + "S14dS14d"},
		{"a", "b", k + "ES14d"},
		{"l", "m", k + "S14dE"},
		{"a", "z", k + "EE"},
		{"a", "k", k + "ES14d"},
		{"k", "z", k + "S14dE"},
		{"a", "a", k + "ES14d"},
		{"z", "z", k + "S14dE"},
		{"j\xff", "k\x00", k + "EE"},
		{"k\x00", "k\x00", k + "S14dE"},
		{"j\xff", "j\xff", k + "ES14d"},
	} {
		wantProof(t, b, c.lo, c.hi, c.want)
	}
}

func TestP7ThreeKeys(t *testing.T) {
	b := filled(t, []item{{"b", "2", 3}, {"a", "1", 1}, {"c", "3", 1}})
	const (
		nodeA = "N\x01a\x011\x01"
		nodeB = "N\x01b\x012\x03"
		nodeC = "N\x01c\x013\x01"
		restA = "S546"
		restC = "S96e"
	)
	for _, c := range []struct{ lo, hi, want string }{
		{"a", "a", nodeB + nodeA + "S14dS14d" + restC},
		{"a", "az", nodeB + nodeA + "S14dE" + restC},
		{"aa", "az", nodeB + nodeA + "S14dE" + restC},
		{"a", "b", nodeB + nodeA + "S14dE" + restC},
		{"Z", "Z", nodeB + nodeA + "ES14d" + restC},
		{"Z", "a", nodeB + nodeA + "ES14d" + restC},
		{"b", "b", nodeB + restA + restC},
		{"b", "bb", nodeB + restA + nodeC + "ES14d"},
		{"b", "c", nodeB + restA + nodeC + "ES14d"},
		{"c", "c", nodeB + restA + nodeC + "S14dS14d"},
		{"c", "z", nodeB + restA + nodeC + "S14dE"},
		{"d", "e", nodeB + restA + nodeC + "S14dE"},
		{"a", "c", nodeB + nodeA + "S14dE" + nodeC + "ES14d"},
		{"az", "bz", nodeB + nodeA + "S14dE" + nodeC + "ES14d"},
		{"\x00", "\xff", nodeB + nodeA + "EE" + nodeC + "EE"},
	} {
		wantProof(t, b, c.lo, c.hi, c.want)
	}
}

// Answers that were worked out from the document's words apart from this
// program.
func TestP7Answers(t *testing.T) {
	same := filled(t, []item{{"c", "", 7}, {"b", "", 7}, {"a", "", 7}})
	wantProof(t, same, "b", "b", "N\x01a\x00\x07S14dN\x01b\x00\x07S14dSd62")

	odd := filled(t, oddItems())
	const (
		least = "N\x01\x00\x14\xff\xff\xff\xff\xff\xff\xff\xff\xff\xff\xff\xff\xff\xff\xff\xff\xff\xff\xff\xff\x0f"
		most  = "N\x08\xff\xff\xff\xff\xff\xff\xff\xff\x00\x00"
	)
	wantProof(t, odd, "\x80", "\x81", least+"S14dN\x03N\x01E\x04S14d\x0fS14dN\x01\x80\x03\x00\x80\xc3\x0eS14d"+most+"ES14d")
	wantProof(t, odd, "\x00", "\xff", least+"S14dN\x03N\x01E\x04S14d\x0fEN\x01\x80\x03\x00\x80\xc3\x0eE"+most+"ES14d")

	full := filled(t, fifty())
	wantProof(t, full, "k2", "k21", "N\x03k39\x0247\x0fN\x03k10\x0230\x0eS2beN\x03k18\x0214\x0eS80c"+
		"N\x02k2\x0246\x0eS359N\x03k23\x0229\rN\x03k20\x0210\nEN\x03k22\x016\x06N\x03k21\x0233\x01ES14dS14dS4dbS427")
	whole, e := full.Prove("\x00", strings.Repeat("\xff", 8))
	if len(whole) != 481 || Sum(whole) != "015" || e != api.OK {
		t.Errorf("the answer that is the whole tree: %q, %d", whole, e)
	}
}

// Bounds of a tree that follow one another at once: nothing fits between, and
// yet it matters by the words of the document.
func TestP7NoRoomBetweenBounds(t *testing.T) {
	b := filled(t, []item{{"k", "", 2}, {"k\x00", "", 1}})
	wantProof(t, b, "k", "k\x00", "N\x01k\x00\x02S14dN\x02k\x00\x00\x01ES14d")
	wantProof(t, b, "k", "k", "N\x01k\x00\x02S14dS"+Sum("N\x02k\x00\x00\x0114d14d"))
}

func wantOfProve(lo, hi string) api.Errno {
	switch {
	case !isKey(lo) || !isKey(hi):
		return api.ErrKey
	case lo > hi:
		return api.ErrRange
	}
	return api.OK
}

func TestP1P7WrongQuestions(t *testing.T) {
	for _, b := range []*Book{nil, New(), filled(t, oddItems()), fullBook(t)} {
		for _, c := range []struct {
			lo, hi string
			want   api.Errno
		}{
			{"", "", api.ErrKey}, {"", "a", api.ErrKey}, {"a", "", api.ErrKey},
			{"nine99999", "z", api.ErrKey}, {"a", "nine99999", api.ErrKey},
			{"z", "nine99999", api.ErrKey}, {"nine99999", "a", api.ErrKey}, // above hi, too
			{"b", "a", api.ErrRange}, {"aa", "a", api.ErrRange}, {"a\x00", "a", api.ErrRange},
			{"\x80", "\x7f", api.ErrRange}, {"\xff", "\x00", api.ErrRange}, {"12345679", "12345678", api.ErrRange},
		} {
			if got, e := b.Prove(c.lo, c.hi); got != "" || e != c.want {
				t.Errorf("Prove(%q, %q) = %q, %d, want %d", c.lo, c.hi, got, e, c.want)
			}
		}
	}
}

func TestP1P7OddArguments(t *testing.T) {
	b := filled(t, oddItems())
	before := inside(b)
	for _, lo := range oddStrings() {
		for _, hi := range oddStrings() {
			want := wantOfProve(lo, hi)
			got, e := b.Prove(lo, hi)
			if e != want || (got == "") != (want != api.OK) {
				t.Errorf("Prove(%.20q, %.20q) = %q, %d, want %d", lo, hi, got, e, want)
			}
		}
	}
	if inside(b) != before {
		t.Error("Prove changed the book")
	}
}

func TestP1P7NilBook(t *testing.T) {
	if got, e := (*Book)(nil).Prove("a", "b"); got != "E" || e != api.OK {
		t.Errorf("Prove = %q, %d", got, e)
	}
}

// Questions between keys that are there, beside them, and anywhere; of books
// that came to hold the same in different ways.
func TestP7AnyWay(t *testing.T) {
	d := dice(3)
	for round := range 300 {
		items := d.items(round%51, 1+round%16)
		tree := grown(items)
		one, two := filled(t, items), filled(t, d.shuffled(items))
		for _, x := range d.shuffled(items) {
			two.Delete(x.key)
			put(t, two, "another", "", x.height)
			two.Delete("another")
			put(t, two, x.key, x.value, x.height)
		}
		for range 40 {
			lo, hi := d.bound(items), d.bound(items)
			if lo > hi {
				lo, hi = hi, lo
			}
			want := tree.answer(lo, hi, nil, nil)
			wantProof(t, one, lo, hi, want)
			wantProof(t, two, lo, hi, want)
			wantProof(t, one, lo, lo, tree.answer(lo, lo, nil, nil))
		}
	}
}

func (d *dice) bound(items []item) string {
	if len(items) == 0 || d.below(2) == 0 {
		return d.key()
	}
	return items[d.below(len(items))].key
}

func TestP7AnotherValueOrHeight(t *testing.T) {
	b := filled(t, []item{{"a", "1", 1}, {"b", "2", 3}, {"c", "3", 1}})
	put(t, b, "c", "x", 1)
	wantProof(t, b, "c", "c", "N\x01b\x012\x03S546N\x01c\x01x\x01S14dS14d")
	put(t, b, "c", "x", 4)
	ab := Sum("N\x01b\x012\x03" + Sum("N\x01a\x011\x0114d14d") + "14d")
	wantProof(t, b, "c", "c", "N\x01c\x01x\x04S"+ab+"S14d")
	b.Delete("c")
	wantProof(t, b, "c", "c", "N\x01b\x012\x03S546E")
	put(t, b, "c", "3", 1)
	wantProof(t, b, "c", "c", "N\x01b\x012\x03S546N\x01c\x013\x01S14dS14d")
}
