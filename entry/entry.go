// Package entry: what a book keeps under one key.
package entry

import (
	"attest/api"
	"attest/mark"
)

// Entry is a key with its value and its height.
type Entry struct {
	Key, Value string
	Height     int
}

// IsKey tells whether a text is a key.
func IsKey(s string) bool {
	return 1 <= len(s) && len(s) <= api.MaxKey
}

// IsValue tells whether a text is a value.
func IsValue(s string) bool {
	return len(s) <= api.MaxValue
}

// IsHeight tells whether a number is a height.
func IsHeight(n int) bool {
	return 0 <= n && n <= api.MaxHeight
}

// Fault tells the first thing that is wrong with an entry, or OK.
func (e Entry) Fault() api.Errno {
	switch {
	case !IsKey(e.Key):
		return api.ErrKey
	case !IsValue(e.Value):
		return api.ErrValue
	case !IsHeight(e.Height):
		return api.ErrArg
	}
	return api.OK
}

// Pair tells an entry without its height.
func (e Entry) Pair() api.Pair {
	return api.Pair{Key: e.Key, Value: e.Value}
}

// Head is how a node that holds this entry begins, in its text and in an
// answer alike.
func (e Entry) Head() string {
	return mark.Node + measured(e.Key) + measured(e.Value) + oneByte(e.Height)
}

// Text is the text of a tree whose node holds this entry, with the digests of
// the trees to its left and to its right.
func (e Entry) Text(left, right string) string {
	return e.Head() + left + right
}

func measured(s string) string {
	return oneByte(len(s)) + s
}

func oneByte(n int) string {
	return string([]byte{byte(n)})
}
