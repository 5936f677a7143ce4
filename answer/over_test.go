package answer

import (
	"strings"
	"testing"

	"attest/question"
)

// What is called is told, in its order, with the bounds as the two keys
// between which all that is held lies.
func TestOver(t *testing.T) {
	keys := strings.Split("Z a aa b bb c d", " ")
	held := func(within question.Bounds) string {
		s := ""
		for _, key := range keys {
			if within.Hold(key) {
				s += " " + key
			}
		}
		return "{" + strings.TrimSpace(s) + "}"
	}
	tell := over[string]{
		node: func(n *node, within question.Bounds, left, right string) string {
			return "(" + left + n.Key + held(within) + right + ")"
		},
		empty: func(within question.Bounds) string { return "-" + held(within) },
		alone: func(digest string, within question.Bounds) string { return digest + held(within) },
	}
	tree := mustRead(t, head("b", "2", 3)+head("a", "1", 1)+"ES123"+head("c", "3", 1)+"S456E")
	want := "((-{Z}a{Z a aa}123{aa})b{Z a aa b bb c d}(456{bb}c{bb c d}-{d}))"
	if got := tell.whole(tree); got != want {
		t.Errorf("%s, want %s", got, want)
	}
	if got, want := tell.whole(mustRead(t, "E")), "-{Z a aa b bb c d}"; got != want {
		t.Errorf("%s, want %s", got, want)
	}
	if got, want := tell.whole(mustRead(t, "S000")), "000{Z a aa b bb c d}"; got != want {
		t.Errorf("%s, want %s", got, want)
	}
}
