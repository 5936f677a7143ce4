package attest

import (
	"fmt"
	"slices"
	"strings"
	"testing"

	"attest/api"
)

func wantDigest(t *testing.T, b *Book, want string) {
	t.Helper()
	for range 2 {
		if got := b.Digest(); got != want {
			t.Errorf("Digest of %s= %q, want %q", inside(b), got, want)
		}
	}
}

func oddItems() []item {
	return []item{
		{"\x00", strings.Repeat("\xff", 20), 15},
		{strings.Repeat("\xff", 8), "", 0},
		{"N\x01E", "S14d", 15},
		{"\x80", "\x00\x80\xc3", 14},
	}
}

func fifty() []item {
	var list []item
	for i := range 50 {
		list = append(list, item{fmt.Sprint("k", i*37%50), fmt.Sprint(i), i % 16})
	}
	return list
}

// Digests that were worked out from the document's words apart from this
// program.
func TestP6Digests(t *testing.T) {
	for _, c := range []struct {
		items []item
		want  string
	}{
		{nil, "14d"},
		{[]item{{"k", "v", 2}}, "dca"},
		{[]item{{"b", "2", 3}, {"a", "1", 1}, {"c", "3", 1}}, "214"},
		{[]item{{"a", "", 7}, {"b", "", 7}, {"c", "", 7}}, "fc7"},
		{[]item{{"c", "", 7}, {"b", "", 7}, {"a", "", 7}}, "fc7"},
		{oddItems(), "af1"},
		{fifty(), "f69"},
	} {
		wantDigest(t, filled(t, c.items), c.want)
	}
}

func TestP6OneKey(t *testing.T) {
	wantDigest(t, filled(t, []item{{"k", "v", 2}}), Sum("N\x01k\x01v\x0214d14d"))
	eight, twenty := "12345678", strings.Repeat("v", 20)
	wantDigest(t, filled(t, []item{{eight, twenty, 15}}), Sum("N\x08"+eight+"\x14"+twenty+"\x0f14d14d"))
	wantDigest(t, filled(t, []item{{"k", "", 0}}), Sum("N\x01k\x00\x0014d14d"))
}

func TestP6LeastOfOneHeightIsTheNode(t *testing.T) {
	c := Sum("N\x01c\x00\x0714d14d")
	b := Sum("N\x01b\x00\x0714d" + c)
	want := Sum("N\x01a\x00\x0714d" + b)
	wantDigest(t, filled(t, []item{{"b", "", 7}, {"c", "", 7}, {"a", "", 7}}), want)

	// d stands above them all, and the least of each side's heights below it.
	a := Sum("N\x01a\x00\x0114d" + Sum("N\x01b\x00\x0114d14d"))
	e := Sum("N\x01e\x00\x0114d" + Sum("N\x01f\x00\x0114d14d"))
	want = Sum("N\x01d\x00\x02" + a + e)
	wantDigest(t, filled(t, []item{{"f", "", 1}, {"e", "", 1}, {"d", "", 2}, {"b", "", 1}, {"a", "", 1}}), want)
}

func TestP6AnotherValueOrHeight(t *testing.T) {
	b := filled(t, []item{{"a", "1", 1}, {"b", "2", 3}, {"c", "3", 1}})
	for _, x := range []item{{"a", "x", 1}, {"b", "2", 2}, {"c", "3", 15}, {"b", "2", 15}, {"a", "", 15}, {"a", "", 0}} {
		before := b.Digest()
		put(t, b, x.key, x.value, x.height)
		wantDigest(t, b, grown(held(b)).digest())
		if b.Digest() == before {
			t.Errorf("Put(%q, %q, %d) left the digest %q as it was", x.key, x.value, x.height, before)
		}
	}
	put(t, b, "a", "1", 1)
	put(t, b, "b", "2", 3)
	put(t, b, "c", "3", 1)
	wantDigest(t, b, "214")
}

func held(b *Book) []item {
	var list []item
	for _, e := range b.entries {
		list = append(list, item{e.Key, e.Value, e.Height})
	}
	return list
}

// It hangs on what is there, and not on the way in which it came.
func TestP6AnyWay(t *testing.T) {
	d := dice(1)
	for round := range 200 {
		items := d.items(round%50, 1+round%16)
		want := grown(items).digest()
		wantDigest(t, filled(t, items), want)
		wantDigest(t, filled(t, d.shuffled(items)), want)

		b := New()
		for _, x := range d.shuffled(items) {
			put(t, b, x.key, "old", 15-x.height)
		}
		for _, x := range d.shuffled(items) {
			put(t, b, "another", x.value, x.height)
			put(t, b, x.key, x.value, x.height)
			b.Delete("another")
		}
		wantDigest(t, b, want)

		for i, x := range items {
			b.Delete(x.key)
			wantDigest(t, b, grown(items[i+1:]).digest())
		}
		wantDigest(t, b, "14d")
	}
}

func TestP6FiftyKeys(t *testing.T) {
	d := dice(2)
	for heights := 1; heights <= 16; heights++ {
		items := d.items(50, heights)
		b := filled(t, items)
		want := grown(items).digest()
		wantDigest(t, b, want)
		if e := b.Put("51st", "", 15); e != api.ErrFull {
			t.Errorf("the 51st key = %d", e)
		}
		wantDigest(t, b, want)
	}
}

// A Put or a Delete that gives an error leaves the digest.
func TestP1P6ErrorsLeaveTheDigest(t *testing.T) {
	b := filled(t, oddItems())
	b.Put("", "", 0)
	b.Put("k", strings.Repeat("v", 21), 0)
	b.Put("\x80", "new", 16)
	b.Put("\x80", "new", -1)
	b.Delete("k")
	b.Delete("")
	wantDigest(t, b, "af1")
}

func TestP2P6BooksDoNotTouch(t *testing.T) {
	one, two := New(), filled(t, oddItems())
	put(t, one, "k", "v", 2)
	wantDigest(t, one, "dca")
	wantDigest(t, two, "af1")
	wantDigest(t, New(), "14d")
	one.Delete("k")
	wantDigest(t, one, "14d")
	wantDigest(t, two, "af1")
}

func TestP2P6AskingChangesNothing(t *testing.T) {
	b := filled(t, fifty())
	before, pairs := inside(b), b.All()
	b.Digest()
	b.Prove("k1", "k3")
	b.Prove("", "")
	b.Prove("b", "a")
	if inside(b) != before || !slices.Equal(b.All(), pairs) {
		t.Error("Digest or Prove changed the book")
	}
}

func TestP1P6NilBook(t *testing.T) {
	var b *Book
	if got := b.Digest(); got != "14d" {
		t.Errorf("Digest = %q", got)
	}
}
