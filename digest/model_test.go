package digest_test

import (
	"strconv"
	"strings"

	"conclave/api"
	"conclave/term"
)

// What the chapter's words say, as text and over spans of leaves from one number up to another (without it): neither numbers of terms nor the arithmetic of places are of use here. The vertex above a span is at the place lo + hi - 1.

// written is a term as text: an atom as a and its number, a list in brackets, a hash by its label with what it is of behind.
func written(s *term.Store, t int) string {
	n, ok := s.Get(t)
	switch {
	case !ok:
		return "nothing"
	case n.Kind == api.Text:
		return strconv.Quote(n.Label)
	case n.Kind == api.Atom:
		return "a" + strconv.Itoa(n.A)
	case n.Kind == api.Hash:
		return n.Label + written(s, n.A)
	}
	items, ok := s.Items(t)
	if !ok {
		return "some other term"
	}
	parts := make([]string, len(items))
	for k, x := range items {
		parts[k] = written(s, x)
	}
	return list(parts...)
}

// list writes the list of none as Text(""), for they are one term.
func list(parts ...string) string {
	if len(parts) == 0 {
		return `""`
	}
	return "[" + strings.Join(parts, " ") + "]"
}

func number(n int) string { return `"` + strconv.Itoa(n) + `"` }

// part is a Key, a Sig or a Hash, all of which are atoms in these tests.
func part(s *term.Store, n int) string {
	if n == 0 {
		return `""`
	}
	return written(s, n)
}

type span struct{ lo, hi int }

func (a span) place() int     { return a.lo + a.hi - 1 }
func (a span) single() bool   { return a.hi-a.lo == 1 }
func (a span) has(i int) bool { return a.lo <= i && i < a.hi }

func (a span) halves() (span, span) {
	mid := (a.lo + a.hi) / 2
	return span{a.lo, mid}, span{mid, a.hi}
}

func whole(t []api.Vertex) span { return span{0, (len(t) + 1) / 2} }

// spans are all of a tree, each half behind what it is a half of.
func spans(a span) []span {
	if a.single() {
		return []span{a}
	}
	left, right := a.halves()
	return append(append([]span{a}, spans(left)...), spans(right)...)
}

func modelHash(s *term.Store, t []api.Vertex, a span) string {
	v := t[a.place()]
	if a.single() && !v.Full {
		return "leaf" + list(number(a.lo))
	}
	if a.single() {
		return "leaf" + list(number(a.lo), number(v.Client), part(s, v.Key), part(s, v.Sig), part(s, v.Hash))
	}
	l, r := a.halves()
	left, right := modelHash(s, t, l), modelHash(s, t, r)
	if !v.Full {
		return "blank" + list(left, right)
	}
	var late []string
	for _, i := range v.Late {
		late = append(late, number(i))
	}
	return "node" + list(part(s, v.Key), part(s, v.Hash), list(late...), left, right)
}

// anyFull tells whether a resolution isn't empty: that it has a place hangs on nothing but that one below it is full.
func anyFull(t []api.Vertex, a span) bool {
	for _, b := range spans(a) {
		if t[b.place()].Full {
			return true
		}
	}
	return false
}

// beside are the spans on the copath of a leaf's filtered path, from above.
func beside(t []api.Vertex, i int) []span {
	var list []span
	for at := whole(t); !at.single(); {
		near, far := at.halves()
		if far.has(i) {
			near, far = far, near
		}
		if anyFull(t, far) {
			list = append(list, far)
		}
		at = near
	}
	return list
}

// modelParents goes down from the root: its keys and hashes are from below, as the chapter's are.
func modelParents(s *term.Store, t []api.Vertex, i int, keys []int) (hashes []string, leaf string) {
	leaf = `""`
	for k, far := range beside(t, i) {
		hashes = append([]string{leaf}, hashes...)
		leaf = "parent" + list(written(s, keys[len(keys)-1-k]), leaf, modelHash(s, t, far))
	}
	return hashes, leaf
}
