package entry

import (
	"math"
	"strings"
	"testing"

	"attest/api"
)

func TestIsKey(t *testing.T) {
	for _, c := range []struct {
		length int
		want   bool
	}{{0, false}, {1, true}, {8, true}, {9, false}, {256, false}, {1 << 20, false}} {
		for _, b := range []string{"k", "\x00", "\xff"} {
			if got := IsKey(strings.Repeat(b, c.length)); got != c.want {
				t.Errorf("IsKey of %d times %q = %v", c.length, b, got)
			}
		}
	}
	if IsKey("äöüßé") {
		t.Error("IsKey takes five letters of ten bytes")
	}
}

func TestIsValue(t *testing.T) {
	for _, c := range []struct {
		length int
		want   bool
	}{{0, true}, {1, true}, {20, true}, {21, false}, {256, false}, {1 << 20, false}} {
		for _, b := range []string{"v", "\x00", "\xff"} {
			if got := IsValue(strings.Repeat(b, c.length)); got != c.want {
				t.Errorf("IsValue of %d times %q = %v", c.length, b, got)
			}
		}
	}
}

func TestIsHeight(t *testing.T) {
	for _, c := range []struct {
		height int
		want   bool
	}{{math.MinInt, false}, {-1, false}, {0, true}, {15, true}, {16, false}, {256, false}, {math.MaxInt, false}} {
		if got := IsHeight(c.height); got != c.want {
			t.Errorf("IsHeight(%d) = %v", c.height, got)
		}
	}
}

func TestFault(t *testing.T) {
	long := strings.Repeat("v", 21)
	for _, c := range []struct {
		e    Entry
		want api.Errno
	}{
		{Entry{"k", "v", 1}, api.OK},
		{Entry{"", "v", 1}, api.ErrKey},
		{Entry{"", long, 16}, api.ErrKey},
		{Entry{"k", long, 16}, api.ErrValue},
		{Entry{"k", "v", 16}, api.ErrArg},
	} {
		if got := c.e.Fault(); got != c.want {
			t.Errorf("Fault of %v = %d, want %d", c.e, got, c.want)
		}
	}
}

func TestPair(t *testing.T) {
	if got := (Entry{"k", "v", 1}).Pair(); got != (api.Pair{Key: "k", Value: "v"}) {
		t.Errorf("Pair = %q", got)
	}
}

func TestHeadAndText(t *testing.T) {
	twenty := strings.Repeat("\xff", 20)
	for _, c := range []struct {
		e    Entry
		head string
	}{
		{Entry{"k", "v", 2}, "N\x01k\x01v\x02"},
		{Entry{"k", "", 0}, "N\x01k\x00\x00"},
		{Entry{"eight888", twenty, 15}, "N\x08eight888\x14" + twenty + "\x0f"},
		{Entry{"\x00\x80", "\x00", 10}, "N\x02\x00\x80\x01\x00\n"},
		{Entry{"ä", "ß", 1}, "N\x02ä\x02ß\x01"},
	} {
		if got := c.e.Head(); got != c.head {
			t.Errorf("Head of %v = %q, want %q", c.e, got, c.head)
		}
		if got, want := c.e.Text("14d", "0f3"), c.head+"14d0f3"; got != want {
			t.Errorf("Text of %v = %q, want %q", c.e, got, want)
		}
	}
}
