package answer

import "strconv"

// Unread is the error of bytes that are not read to their end as an answer.
type Unread struct {
	Why string
}

func (u Unread) Error() string { return "no answer's bytes: " + u.Why }

// Misplaced is the error of an answer in which something stands that may not
// stand there in an answer to the question.
type Misplaced struct {
	Why string
}

func (m Misplaced) Error() string { return "no answer to this question: " + m.Why }

const (
	toTheLeft  = "to the left of "
	toTheRight = "to the right of "
)

// Beside wraps the error of a tree beside a node: one around the other, they
// tell the way down from the top.
type Beside struct {
	Side, Key string
	Err       error
}

func (b Beside) Error() string { return b.Side + strconv.Quote(b.Key) + ": " + b.Err.Error() }

// Unwrap tells the error of the tree itself.
func (b Beside) Unwrap() error { return b.Err }
