package answer

import (
	"attest/api"
	"attest/entry"
	"attest/mark"
	"attest/sum"
)

// Read reads the bytes of an answer; what it can't read to the end is Unread.
func Read(bytes string) (Tree, error) {
	r := reader{rest: bytes}
	t, err := r.tree()
	if err != nil {
		return Tree{}, err
	}
	if r.rest != "" {
		return Tree{}, Unread{Why: "something stands behind it"}
	}
	return t, nil
}

type reader struct {
	rest  string
	nodes int // so far
}

func (r *reader) tree() (Tree, error) {
	letter, err := r.take(1)
	if err != nil {
		return Tree{}, err
	}
	switch letter {
	case mark.Node:
		return r.node()
	case mark.Empty:
		return Tree{}, nil
	case mark.Alone:
		return r.alone()
	}
	return Tree{}, Unread{Why: "no tree begins so"}
}

// The nodes are counted ahead of what is in them, so that no answer, however
// long it is, leads further down than a book's keys can.
func (r *reader) node() (Tree, error) {
	if r.nodes == api.MaxKeys {
		return Tree{}, Unread{Why: "more nodes than a book has keys"}
	}
	r.nodes++
	held, err := r.entry()
	if err != nil {
		return Tree{}, err
	}
	left, err := r.tree()
	if err != nil {
		return Tree{}, Beside{Side: toTheLeft, Key: held.Key, Err: err}
	}
	right, err := r.tree()
	if err != nil {
		return Tree{}, Beside{Side: toTheRight, Key: held.Key, Err: err}
	}
	return Tree{node: &node{Entry: held, left: left, right: right}}, nil
}

func (r *reader) entry() (entry.Entry, error) {
	key, err := r.measured()
	if err != nil {
		return entry.Entry{}, err
	}
	value, err := r.measured()
	if err != nil {
		return entry.Entry{}, err
	}
	height, err := r.number()
	if err != nil {
		return entry.Entry{}, err
	}
	e := entry.Entry{Key: key, Value: value, Height: height}
	if e.Fault() != api.OK {
		return entry.Entry{}, Unread{Why: "no key, no value or no height"}
	}
	return e, nil
}

func (r *reader) alone() (Tree, error) {
	digest, err := r.take(sum.Digits)
	if err != nil {
		return Tree{}, err
	}
	if !sum.Is(digest) {
		return Tree{}, Unread{Why: "no digest"}
	}
	return Tree{alone: digest}, nil
}

func (r *reader) measured() (string, error) {
	length, err := r.number()
	if err != nil {
		return "", err
	}
	return r.take(length)
}

func (r *reader) number() (int, error) {
	s, err := r.take(1)
	if err != nil {
		return 0, err
	}
	return int(s[0]), nil
}

func (r *reader) take(n int) (string, error) {
	if n > len(r.rest) {
		return "", Unread{Why: "it ends too soon"}
	}
	taken := r.rest[:n]
	r.rest = r.rest[n:]
	return taken, nil
}
