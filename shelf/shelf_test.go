package shelf

import (
	"slices"
	"strconv"
	"testing"

	"attest/api"
	"attest/entry"
)

func filled(keys ...string) Shelf {
	var s Shelf
	for i, key := range keys {
		s = s.With(entry.Entry{Key: key, Value: "v" + key, Height: i % 16})
	}
	return s
}

func keys(s Shelf) []string {
	var list []string
	for _, e := range s {
		list = append(list, e.Key)
	}
	return list
}

func TestWithKeepsOrder(t *testing.T) {
	got := keys(filled("k", "\xff", "K", "ka", "\x00", "\x7f", "\x80", "k\x00"))
	want := []string{"\x00", "K", "k", "k\x00", "ka", "\x7f", "\x80", "\xff"}
	if !slices.Equal(got, want) {
		t.Errorf("keys %q, want %q", got, want)
	}
}

func TestWithInTheSteadOfAnother(t *testing.T) {
	s := filled("a", "b", "c")
	for _, e := range []entry.Entry{{Key: "a", Value: "1", Height: 15}, {Key: "b", Value: "", Height: 0}, {Key: "c", Value: "3", Height: 7}} {
		s = s.With(e)
		if got, found := s.Find(e.Key); !found || got != e {
			t.Errorf("Find(%q) = %v, %v, want %v", e.Key, got, found, e)
		}
	}
	if got := keys(s); !slices.Equal(got, []string{"a", "b", "c"}) {
		t.Errorf("keys %q", got)
	}
}

func TestWithout(t *testing.T) {
	s := filled("a", "b", "c", "d")
	for _, c := range []struct {
		key  string
		left []string
	}{{"b", []string{"a", "c", "d"}}, {"x", []string{"a", "c", "d"}}, {"a", []string{"c", "d"}}, {"d", []string{"c"}}, {"c", nil}, {"c", nil}} {
		s = s.Without(c.key)
		if got := keys(s); !slices.Equal(got, c.left) {
			t.Errorf("without %q: %q, want %q", c.key, got, c.left)
		}
	}
}

func TestFindAndHas(t *testing.T) {
	s := filled("b", "d")
	for _, c := range []struct {
		key  string
		want bool
	}{{"a", false}, {"b", true}, {"b\x00", false}, {"c", false}, {"d", true}, {"e", false}} {
		e, found := s.Find(c.key)
		if found != c.want || s.Has(c.key) != c.want {
			t.Errorf("Find(%q) = %v, Has = %v", c.key, found, s.Has(c.key))
		}
		if found && e.Value != "v"+c.key || !found && e != (entry.Entry{}) {
			t.Errorf("Find(%q) = %v", c.key, e)
		}
	}
	if _, found := Shelf(nil).Find("a"); found {
		t.Error("an empty shelf has a key")
	}
}

func TestTakes(t *testing.T) {
	var s Shelf
	for i := range 50 {
		if !s.Takes("k" + strconv.Itoa(i)) {
			t.Fatalf("a shelf of %d takes no more", i)
		}
		s = s.With(entry.Entry{Key: "k" + strconv.Itoa(i)})
	}
	if s.Takes("l") || !s.Takes("k0") || !s.Takes("k49") {
		t.Error("a full shelf takes the keys that it has, and no others")
	}
}

// Shelves made from one another share no memory that a change writes into.
func TestOldShelvesStay(t *testing.T) {
	old := filled("b", "d", "f", "h", "j")
	kept := slices.Clone(old)
	one, two := old.With(entry.Entry{Key: "z", Value: "1"}), old.With(entry.Entry{Key: "z", Value: "2"})
	for _, key := range []string{"a", "b", "c", "j", "z"} {
		old.With(entry.Entry{Key: key, Value: "new", Height: 15})
		old.Without(key)
		one.With(entry.Entry{Key: key, Value: "new", Height: 15})
		one.Without(key)
	}
	if !slices.Equal(old, kept) {
		t.Errorf("an old shelf has changed: %v", old)
	}
	if a, _ := one.Find("z"); a.Value != "1" {
		t.Errorf("a shelf has changed: %v", one)
	}
	if b, _ := two.Find("z"); b.Value != "2" {
		t.Errorf("a shelf has changed: %v", two)
	}
}

func TestPairsAreNew(t *testing.T) {
	s := filled("a", "b")
	want := []api.Pair{{Key: "a", Value: "va"}, {Key: "b", Value: "vb"}}
	for range 2 {
		got := s.Pairs()
		if !slices.Equal(got, want) {
			t.Errorf("Pairs = %q", got)
		}
		clear(got[:cap(got)])
	}
	if got := Shelf(nil).Pairs(); len(got) != 0 {
		t.Errorf("Pairs of an empty shelf = %q", got)
	}
}
