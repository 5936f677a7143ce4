package sum

import (
	"fmt"
	"math/big"
	"strings"
	"testing"
)

func TestOfSmallTexts(t *testing.T) {
	for _, c := range []struct{ text, want string }{
		{"", "001"},
		{"E", "14d"},
		{"\x00", "108"},
		{"a", "169"},
		{"\xff", "207"},
		{"T\x00", "5c7"},
		{"\x00T", "fbd"},
	} {
		if got := Of(c.text); got != c.want {
			t.Errorf("Of(%q) = %q, want %q", c.text, got, c.want)
		}
	}
}

// The whole number is worked out first and cut down to its rest only once, so
// that a rest taken wrongly on the way shows.
func TestOfAgainstWholeNumbers(t *testing.T) {
	texts := []string{"abc", "cba", "\x00\x00\x00", "\xff\xfe\x80", "日本", strings.Repeat("\xff", 700)}
	for a := range 256 {
		texts = append(texts, string([]byte{byte(a)}), string([]byte{byte(a), byte(255 - a), byte(a)}))
	}
	for _, text := range texts {
		n := big.NewInt(1)
		for _, b := range []byte(text) {
			n.Mul(n, big.NewInt(263)).Add(n, big.NewInt(int64(b)+1))
		}
		want := fmt.Sprintf("%03x", n.Mod(n, big.NewInt(4093)))
		if got := Of(text); got != want {
			t.Errorf("Of(%q) = %q, want %q", text, got, want)
		}
	}
}

func TestOfTellsEverySum(t *testing.T) {
	seen := map[string]bool{}
	for a := range 256 {
		for b := range 256 {
			seen[Of(string([]byte{byte(a), byte(b)}))] = true
		}
	}
	for n := range 4093 {
		if want := fmt.Sprintf("%03x", n); !seen[want] {
			t.Fatalf("no text of two bytes has the sum %q", want)
		}
	}
	if len(seen) != 4093 {
		t.Errorf("%d sums, want 4093", len(seen))
	}
}

func TestOfLongText(t *testing.T) {
	text := strings.Repeat("\x00long\xff", 500000)
	n := 1
	for i := range len(text) {
		n = (263*n + int(text[i]) + 1) % 4093
	}
	if got, want := Of(text), fmt.Sprintf("%03x", n); got != want {
		t.Errorf("Of a long text = %q, want %q", got, want)
	}
}

func TestIs(t *testing.T) {
	for n := range 4096 {
		if s := fmt.Sprintf("%03x", n); !Is(s) {
			t.Errorf("%q is none", s)
		}
	}
	for _, s := range []string{"", "1", "14", "14d0", "14D", "14g", "1 4", " 14", "14 ", "14`", "14:", "/14", "é1", "\x00\x00\x00", "\xff\xff\xff", "1\xff4", strings.Repeat("0", 1<<20)} {
		if Is(s) {
			t.Errorf("%.20q is one", s)
		}
	}
}
