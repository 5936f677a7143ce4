package question

import (
	"strings"
	"testing"

	"attest/api"
)

func TestFault(t *testing.T) {
	for _, c := range []struct {
		lo, hi string
		want   api.Errno
	}{
		{"a", "a", api.OK}, {"a", "b", api.OK}, {"a", "a\x00", api.OK}, {"\x7f", "\x80", api.OK}, {"12345678", "12345678", api.OK},
		{"", "a", api.ErrKey}, {"a", "", api.ErrKey}, {"", "", api.ErrKey},
		{"123456789", "2", api.ErrKey}, {"1", "123456789", api.ErrKey}, {"2", "123456789", api.ErrKey},
		{strings.Repeat("a", 1<<20), "a", api.ErrKey},
		{"b", "a", api.ErrRange}, {"a\x00", "a", api.ErrRange}, {"\x80", "\x7f", api.ErrRange},
	} {
		if got := (Question{c.lo, c.hi}).Fault(); got != c.want {
			t.Errorf("Fault of %.20q, %.20q = %d, want %d", c.lo, c.hi, got, c.want)
		}
	}
}

func TestMatterTo(t *testing.T) {
	whole := Bounds{}
	for _, c := range []struct {
		b      Bounds
		lo, hi string
		want   bool
	}{
		{whole, "a", "a", true},
		{whole, "\x00", "\xff", true},
		{whole.Left("k"), "a", "b", true},
		{whole.Left("k"), "j", "k", true},
		{whole.Left("k"), "k", "k", false},
		{whole.Left("k"), "k", "l", false},
		{whole.Left("k"), "l", "m", false},
		{whole.Right("k"), "l", "m", true},
		{whole.Right("k"), "k", "l", true},
		{whole.Right("k"), "k", "k", false},
		{whole.Right("k"), "j", "k", false},
		{whole.Right("k"), "a", "b", false},
		{whole.Left("m").Right("k"), "k", "k", false},
		{whole.Left("m").Right("k"), "k", "l", true},
		{whole.Left("m").Right("k"), "l", "l", true},
		{whole.Right("k").Left("m"), "l", "m", true},
		{whole.Right("k").Left("m"), "m", "m", false},
		{whole.Right("k").Left("m"), "a", "z", true},
		{whole.Right("k").Left("m"), "a", "b", false},
		{whole.Right("k").Left("m"), "y", "z", false},
		{whole.Right("k").Left("k\x00"), "k", "k\x00", true},
	} {
		if got := c.b.MatterTo(Question{c.lo, c.hi}); got != c.want {
			t.Errorf("what lies within %q matters to %q, %q: %v", c.b, c.lo, c.hi, got)
		}
	}
}

func TestAsksFor(t *testing.T) {
	for _, c := range []struct {
		lo, hi, key string
		want        bool
	}{
		{"k", "k", "k", true}, {"k", "k", "j", false}, {"k", "k", "l", false}, {"k", "k", "k\x00", false},
		{"b", "d", "b", true}, {"b", "d", "c", true}, {"b", "d", "d", true}, {"b", "d", "a\xff", false}, {"b", "d", "d\x00", false},
		{"\x7f", "\x80", "\x7f\xff", true}, {"\x7f", "\x80", "\x80\x00", false},
	} {
		if got := (Question{c.lo, c.hi}).AsksFor(c.key); got != c.want {
			t.Errorf("%q, %q asks for %q: %v", c.lo, c.hi, c.key, got)
		}
	}
}

func TestHold(t *testing.T) {
	whole := Bounds{}
	for _, c := range []struct {
		b    Bounds
		key  string
		want bool
	}{
		{whole, "\x00", true}, {whole, "\xff", true},
		{whole.Left("k"), "j\xff", true}, {whole.Left("k"), "k", false}, {whole.Left("k"), "l", false}, {whole.Left("k"), "\x00", true},
		{whole.Right("k"), "k\x00", true}, {whole.Right("k"), "k", false}, {whole.Right("k"), "j", false}, {whole.Right("k"), "\xff", true},
		{whole.Right("k").Left("m"), "l", true}, {whole.Right("k").Left("m"), "k", false}, {whole.Right("k").Left("m"), "m", false},
		{whole.Left("m").Right("k"), "a", false}, {whole.Left("m").Right("k"), "z", false}, {whole.Left("m").Right("k"), "k\x00", true},
		{whole.Right("k").Left("k\x00"), "k", false}, {whole.Right("k").Left("k\x00"), "k\x00", false},
		{whole.Right("\x7f").Left("\x81"), "\x80", true},
	} {
		if got := c.b.Hold(c.key); got != c.want {
			t.Errorf("%q lies between %q: %v", c.key, c.b, got)
		}
	}
}

func TestBoundsDoNotTouch(t *testing.T) {
	b := Bounds{}.Right("k")
	b.Left("m")
	b.Right("l")
	if b != (Bounds{below: "k"}) {
		t.Errorf("the bounds of one tree were changed by those of another: %q", b)
	}
}
