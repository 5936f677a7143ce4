package attest

import (
	"fmt"
	"maps"
	"math"
	"slices"
	"strings"
	"testing"

	"attest/api"
)

// What stands in a book, heights too: no call of P1 to P5 tells a height.
func inside(b *Book) string {
	s := ""
	for _, e := range b.entries {
		s += fmt.Sprintf("%q=%q at %d; ", e.Key, e.Value, e.Height)
	}
	return s
}

func put(t *testing.T, b *Book, key, value string, height int) {
	t.Helper()
	if e := b.Put(key, value, height); e != api.OK {
		t.Fatalf("Put(%q, %q, %d) = %d", key, value, height, e)
	}
}

func wantPairs(t *testing.T, b *Book, want ...api.Pair) {
	t.Helper()
	if got := b.All(); !slices.Equal(got, want) {
		t.Errorf("All = %q, want %q", got, want)
	}
}

func fullBook(t *testing.T) *Book {
	t.Helper()
	b := New()
	for i := range 50 {
		put(t, b, fmt.Sprint("k", i*37%50), fmt.Sprint(i), i%16)
	}
	return b
}

func oddStrings() []string {
	return []string{
		"", "k", "\x00", "\xff", "eight888", "nine99999", "\xff\xfe\x00\x80", "äöüß", "äöüßé",
		strings.Repeat("v", 20), strings.Repeat("v", 21), strings.Repeat("\x00", 256), strings.Repeat("N\x01k", 1<<20),
	}
}

func oddNumbers() []int {
	return []int{math.MinInt, math.MinInt32, -256, -1, 0, 15, 16, 256, 271, math.MaxInt32, math.MaxInt}
}

func isKey(s string) bool { return 1 <= len(s) && len(s) <= 8 }

func wantOfPut(key, value string, height int, full, there bool) api.Errno {
	switch {
	case !isKey(key):
		return api.ErrKey
	case len(value) > 20:
		return api.ErrValue
	case height < 0 || height > 15:
		return api.ErrArg
	case full && !there:
		return api.ErrFull
	}
	return api.OK
}

func TestP1PutAtOddArguments(t *testing.T) {
	for _, start := range []*Book{New(), fullBook(t)} {
		for _, key := range oddStrings() {
			for _, value := range oddStrings() {
				for _, height := range oddNumbers() {
					b := *start
					before := inside(&b)
					want := wantOfPut(key, value, height, len(b.entries) == 50, false)
					if e := b.Put(key, value, height); e != want {
						t.Errorf("Put(%.20q, %.30q, %d) = %d, want %d", key, value, height, e, want)
					}
					if want != api.OK && inside(&b) != before {
						t.Errorf("Put(%.20q, %.30q, %d) gave %d and changed the book", key, value, height, want)
					}
				}
			}
		}
	}
}

func TestP1GetAndDeleteAtOddArguments(t *testing.T) {
	for _, start := range []*Book{New(), fullBook(t)} {
		before := inside(start)
		for _, key := range oddStrings() {
			want := api.ErrNone
			if !isKey(key) {
				want = api.ErrKey
			}
			if v, e := start.Get(key); v != "" || e != want {
				t.Errorf("Get(%.20q) = %q, %d, want %d", key, v, e, want)
			}
			if e := start.Delete(key); e != want {
				t.Errorf("Delete(%.20q) = %d, want %d", key, e, want)
			}
		}
		if inside(start) != before {
			t.Error("a Get or a Delete that gave an error changed the book")
		}
	}
}

func TestP1FirstErrorOfSeveral(t *testing.T) {
	b := fullBook(t)
	long := strings.Repeat("v", 21)
	for _, c := range []struct {
		key, value string
		height     int
		want       api.Errno
	}{
		{"", long, -1, api.ErrKey},
		{"nine99999", long, 16, api.ErrKey},
		{"", "", -1, api.ErrKey},
		{"", long, 0, api.ErrKey},
		{"", "", 0, api.ErrKey},
		{"l", long, -1, api.ErrValue},
		{"k1", long, 16, api.ErrValue},
		{"l", long, 0, api.ErrValue},
		{"l", "", 16, api.ErrArg},
		{"k1", "", -1, api.ErrArg},
		{"l", "", 0, api.ErrFull},
	} {
		before := inside(b)
		if e := b.Put(c.key, c.value, c.height); e != c.want {
			t.Errorf("Put(%q, %q, %d) = %d, want %d", c.key, c.value, c.height, e, c.want)
		}
		if inside(b) != before {
			t.Errorf("Put(%q, %q, %d) changed the book", c.key, c.value, c.height)
		}
	}
}

func TestP1NilBook(t *testing.T) {
	var b *Book
	if e := b.Put("", "", 0); e != api.ErrKey {
		t.Errorf("Put of no key = %d", e)
	}
	if e := b.Put("k", "", 0); e != api.ErrFull {
		t.Errorf("Put = %d", e)
	}
	if e := b.Delete("k"); e != api.ErrNone {
		t.Errorf("Delete = %d", e)
	}
	if v, e := b.Get("k"); v != "" || e != api.ErrNone {
		t.Errorf("Get = %q, %d", v, e)
	}
	if l := b.All(); len(l) != 0 {
		t.Errorf("All = %q", l)
	}
}

func TestP2ListsAreTheCallers(t *testing.T) {
	b := New()
	for _, key := range []string{"c", "a", "e"} {
		put(t, b, key, "v"+key, 1)
	}
	first, second := b.All(), b.All()
	for i := range first[:cap(first)] {
		first[:cap(first)][i] = api.Pair{Key: "other", Value: "other"}
	}
	_ = append(first[:1], api.Pair{Key: "more", Value: "more"})
	want := []api.Pair{{Key: "a", Value: "va"}, {Key: "c", Value: "vc"}, {Key: "e", Value: "ve"}}
	if !slices.Equal(second, want) {
		t.Errorf("a list that is out was changed by writing into another: %q", second)
	}
	wantPairs(t, b, want...)
	if v, e := b.Get("a"); v != "va" || e != api.OK {
		t.Errorf("Get after writing into a list = %q, %d", v, e)
	}
	put(t, b, "b", "new", 2)
	put(t, b, "a", "new", 2)
	b.Delete("e")
	if !slices.Equal(second, want) {
		t.Errorf("a list that is out was changed by a Put or a Delete: %q", second)
	}
}

func TestP2ListOfNothing(t *testing.T) {
	b := New()
	wantPairs(t, b)
	put(t, b, "k", "v", 0)
	b.Delete("k")
	wantPairs(t, b)
}

func TestP2BooksDoNotTouch(t *testing.T) {
	one, two := New(), New()
	put(t, one, "k", "one", 1)
	wantPairs(t, two)
	put(t, two, "k", "two", 2)
	put(t, two, "l", "", 2)
	wantPairs(t, one, api.Pair{Key: "k", Value: "one"})
	if e := one.Delete("k"); e != api.OK {
		t.Errorf("Delete = %d", e)
	}
	if v, e := two.Get("k"); v != "two" || e != api.OK {
		t.Errorf("Get of the other book = %q, %d", v, e)
	}
	fullBook(t)
	put(t, one, "m", "", 0)
	wantPairs(t, New())
}

func TestP2CopiesOfABookDoNotTouch(t *testing.T) {
	b := New()
	for _, key := range []string{"a", "b", "c", "d", "e"} {
		put(t, b, key, "old", 1)
	}
	before := inside(b)
	c := *b
	put(t, &c, "a", "new", 2)
	put(t, &c, "bb", "new", 2)
	put(t, &c, "f", "new", 2)
	c.Delete("c")
	if inside(b) != before {
		t.Errorf("a book was changed through a copy: %s", inside(b))
	}
}

func TestP3Sum(t *testing.T) {
	for _, c := range []struct{ text, want string }{
		{"", "001"}, {"E", "14d"}, {"\x00", "108"}, {"a", "169"}, {"\xff", "207"}, {"T\x00", "5c7"},
	} {
		if got := Sum(c.text); got != c.want {
			t.Errorf("Sum(%q) = %q, want %q", c.text, got, c.want)
		}
	}
	for _, text := range oddStrings() {
		n := 1
		for _, b := range []byte(text) {
			n = (n*263 + int(b) + 1) % 4093
		}
		if got, want := Sum(text), fmt.Sprintf("%03x", n); got != want {
			t.Errorf("Sum(%.20q) = %q, want %q", text, got, want)
		}
	}
}

func TestP4Bounds(t *testing.T) {
	v := strings.Repeat("v", 30)
	k := strings.Repeat("k", 30)
	for _, c := range []struct {
		key, value string
		height     int
		want       api.Errno
	}{
		{k[:0], "", 0, api.ErrKey}, {k[:1], "", 0, api.OK}, {k[:8], "", 0, api.OK}, {k[:9], "", 0, api.ErrKey},
		{"k", v[:0], 0, api.OK}, {"k", v[:20], 0, api.OK}, {"k", v[:21], 0, api.ErrValue},
		{"k", "", -1, api.ErrArg}, {"k", "", 0, api.OK}, {"k", "", 15, api.OK}, {"k", "", 16, api.ErrArg},
	} {
		b := New()
		if e := b.Put(c.key, c.value, c.height); e != c.want {
			t.Errorf("Put(%q, %q, %d) = %d, want %d", c.key, c.value, c.height, e, c.want)
		}
		if c.want == api.OK {
			wantPairs(t, b, api.Pair{Key: c.key, Value: c.value})
		} else {
			wantPairs(t, b)
		}
	}
}

func TestP4PutAgain(t *testing.T) {
	b := New()
	put(t, b, "a", "1", 3)
	put(t, b, "k", "old", 3)
	put(t, b, "z", "2", 3)
	put(t, b, "k", "new", 7)
	want := `"a"="1" at 3; "k"="new" at 7; "z"="2" at 3; `
	if got := inside(b); got != want {
		t.Errorf("the book holds %s, want %s", got, want)
	}
	put(t, b, "k", "new", 0)
	if e, _ := b.entries.Find("k"); e.Height != 0 {
		t.Errorf("the height is %d still", e.Height)
	}
}

func TestP4Full(t *testing.T) {
	b := fullBook(t)
	before := inside(b)
	for _, key := range []string{"l", "a", "k", "k00", "k7\x00"} {
		if e := b.Put(key, "", 0); e != api.ErrFull {
			t.Errorf("Put(%q) as the 51st key = %d", key, e)
		}
	}
	if inside(b) != before {
		t.Error("a Put that gave ErrFull changed the book")
	}
	for i := range 50 {
		put(t, b, fmt.Sprint("k", i), "new", 15)
	}
	if n := len(b.All()); n != 50 {
		t.Errorf("%d keys, want 50", n)
	}
	if e := b.Delete("k7"); e != api.OK {
		t.Errorf("Delete = %d", e)
	}
	put(t, b, "l", "", 0)
	if e := b.Put("k7", "", 0); e != api.ErrFull {
		t.Errorf("Put of what was deleted, with the book full again = %d", e)
	}
}

func TestP4Delete(t *testing.T) {
	b := New()
	if e := b.Delete("k"); e != api.ErrNone {
		t.Errorf("Delete from an empty book = %d", e)
	}
	for _, key := range []string{"k", "eight888", "\x00", "\xff"} {
		put(t, b, key, "v", 1)
	}
	for _, c := range []struct {
		key  string
		want api.Errno
	}{
		{"", api.ErrKey}, {"nine99999", api.ErrKey}, {"eight8888", api.ErrKey}, {"K", api.ErrNone}, {"k\x00", api.ErrNone},
		{"k", api.OK}, {"k", api.ErrNone}, {"\x00", api.OK}, {"\xff", api.OK},
	} {
		if e := b.Delete(c.key); e != c.want {
			t.Errorf("Delete(%q) = %d, want %d", c.key, e, c.want)
		}
	}
	wantPairs(t, b, api.Pair{Key: "eight888", Value: "v"})
}

func TestP5Get(t *testing.T) {
	b := New()
	if v, e := b.Get("k"); v != "" || e != api.ErrNone {
		t.Errorf("Get of an empty book = %q, %d", v, e)
	}
	twenty := strings.Repeat("\xff", 20)
	put(t, b, "k", "v", 1)
	put(t, b, "eight888", "", 0)
	put(t, b, "\x00\xff", twenty, 15)
	for _, c := range []struct {
		key, value string
		want       api.Errno
	}{
		{"k", "v", api.OK}, {"eight888", "", api.OK}, {"\x00\xff", twenty, api.OK},
		{"", "", api.ErrKey}, {"nine99999", "", api.ErrKey}, {"K", "", api.ErrNone}, {"kk", "", api.ErrNone}, {"\x00", "", api.ErrNone},
	} {
		if v, e := b.Get(c.key); v != c.value || e != c.want {
			t.Errorf("Get(%q) = %q, %d, want %q, %d", c.key, v, e, c.value, c.want)
		}
	}
}

func TestP5AllByRisingKeys(t *testing.T) {
	b := New()
	keys := []string{"\x00", "\x00\x00", "\x00\xff", "A", "Z", "a", "a\x00", "aa", "b", "\x7f", "\x80", "\xc3\xa4", "\xff", "\xff\x00", "\xff\xff"}
	for i := range keys {
		put(t, b, keys[i*7%len(keys)], fmt.Sprint(i*7%len(keys)), i%16)
	}
	var want []api.Pair
	for i, key := range keys {
		want = append(want, api.Pair{Key: key, Value: fmt.Sprint(i)})
	}
	wantPairs(t, b, want...)
}

// P4 and P5 together: a long row of calls, held against a map.
func TestP4P5AgainstAMap(t *testing.T) {
	b, model := New(), map[string]string{}
	d := dice(1)
	full := 0
	for step := range 20000 {
		key := string([]byte{byte(d.below(256)) & 0xe1, byte(d.below(256)) & 0x81})
		_, there := model[key]
		if d.below(16) < 11 {
			value := fmt.Sprint(step)
			want := wantOfPut(key, value, 3, len(model) == 50, there)
			if e := b.Put(key, value, 3); e != want {
				t.Fatalf("step %d: Put(%q) = %d, want %d", step, key, e, want)
			}
			if want == api.OK {
				model[key] = value
			} else {
				full++
			}
		} else {
			if e := b.Delete(key); (e == api.OK) != there || !there && e != api.ErrNone {
				t.Fatalf("step %d: Delete(%q) = %d", step, key, e)
			}
			delete(model, key)
		}
		if v, e := b.Get(key); v != model[key] || (e == api.OK) != (model[key] != "") {
			t.Fatalf("step %d: Get(%q) = %q, %d, want %q", step, key, v, e, model[key])
		}
		var want []api.Pair
		for _, key := range slices.Sorted(maps.Keys(model)) {
			want = append(want, api.Pair{Key: key, Value: model[key]})
		}
		if got := b.All(); !slices.Equal(got, want) {
			t.Fatalf("step %d: All = %q, want %q", step, got, want)
		}
	}
	if full == 0 || full > 15000 {
		t.Errorf("the book was full at %d steps: the row of calls tests too little", full)
	}
}
