package answer

import (
	"errors"
	"testing"

	"attest/question"
)

// The errors stand one in the other, from the top down to where it was.
func TestErrorsTellTheWayDown(t *testing.T) {
	b, a := head("b", "", 3), head("a\x00", "", 1)
	_, err := Read(b + a + "E" + "X" + "E")
	if got, want := err.Error(), `to the left of "b": to the right of "a\x00": no answer's bytes: no tree begins so`; got != want {
		t.Errorf("%s, want %s", got, want)
	}
	err = mustRead(t, b+"E"+head("c", "", 1)+"EE").Fault(question.Question{Lo: "a", Hi: "b"})
	if got, want := err.Error(), `to the right of "b": no answer to this question: a node where nothing matters`; got != want {
		t.Errorf("%s, want %s", got, want)
	}
	err = mustRead(t, b+head("a", "", 1)+"S14dEE").Fault(question.Question{Lo: "Z", Hi: "z"})
	if got, want := err.Error(), `to the left of "b": to the left of "a": no answer to this question: a digest alone for a tree that matters`; got != want {
		t.Errorf("%s, want %s", got, want)
	}
}

func TestErrorsAreToldApart(t *testing.T) {
	for _, c := range []struct {
		inner             error
		unread, misplaced bool
	}{
		{Unread{Why: "one"}, true, false},
		{Misplaced{Why: "two"}, false, true},
		{errors.New("three"), false, false},
	} {
		for wrapped := c.inner; len(wrapped.Error()) < 1000; wrapped = (Beside{Side: toTheLeft, Key: "k", Err: wrapped}) {
			var unread Unread
			var misplaced Misplaced
			if errors.As(wrapped, &unread) != c.unread || errors.As(wrapped, &misplaced) != c.misplaced {
				t.Errorf("%v is Unread: %v, Misplaced: %v", wrapped, unread, misplaced)
			}
			if c.unread && unread != c.inner || c.misplaced && misplaced != c.inner {
				t.Errorf("%v holds %v, %v, want %v", wrapped, unread, misplaced, c.inner)
			}
		}
	}
}
