// Package term is layer 1: see shared/doc/01-term.md.
package term

import (
	"strings"

	"conclave/api"
)

// Store keeps terms, each once.
type Store struct {
	nodes   []api.Node       // the term t stands at t-1
	numbers map[api.Node]int // what makes two terms that are made alike one term
	drawn   int              // the greatest number of an atom that Fresh made
}

// New makes a store.
func New() *Store { return &Store{numbers: map[api.Node]int{}} }

// Make makes a term.
func (s *Store) Make(n api.Node) (int, api.Errno) {
	if !s.fits(n) {
		return 0, api.ErrTerm
	}
	if t := s.numbers[n]; t != 0 {
		return t, api.OK
	}
	if len(s.nodes) >= api.MaxTerms {
		return 0, api.ErrFull
	}
	// The label may be a piece of a long text, which would be kept whole with it.
	n.Label = strings.Clone(n.Label)
	s.nodes = append(s.nodes, n)
	s.numbers[n] = len(s.nodes)
	return len(s.nodes), api.OK
}

// fits tells whether a node has the parts that its kind asks for, and no others.
func (s *Store) fits(n api.Node) bool {
	switch n.Kind {
	case api.Atom:
		return n.Label == "" && n.A >= 1 && n.A <= api.MaxNumber && n.B == 0
	case api.Text:
		return len(n.Label) <= api.MaxText && n.A == 0 && n.B == 0
	case api.Hash:
		return len(n.Label) <= api.MaxLabel && s.has(n.A) && n.B == 0
	case api.Kdf:
		return len(n.Label) <= api.MaxLabel && s.has(n.A) && s.has(n.B)
	case api.Pub:
		return n.Label == "" && s.has(n.A) && n.B == 0
	case api.Box:
		return n.Label == "" && s.node(n.A).Kind == api.Pub && s.has(n.B)
	case api.Pair, api.Seal, api.Sign:
		return n.Label == "" && s.has(n.A) && s.has(n.B)
	}
	return false
}

// has tells whether a number is a term's.
func (s *Store) has(t int) bool { return t >= 1 && t <= len(s.nodes) }

// node is a term's node; the zero node, whose kind no term has, if there is none.
func (s *Store) node(t int) api.Node {
	if !s.has(t) {
		return api.Node{}
	}
	return s.nodes[t-1]
}

// Get tells what a term is made of.
func (s *Store) Get(t int) (api.Node, bool) { return s.node(t), s.has(t) }

// Len tells how many terms there are.
func (s *Store) Len() int { return len(s.nodes) }

// number is Make without telling why there is none.
func (s *Store) number(n api.Node) int {
	t, _ := s.Make(n)
	return t
}

// Fresh draws an atom.
func (s *Store) Fresh() int {
	t := s.number(api.Node{Kind: api.Atom, A: s.drawn + 1})
	if t != 0 {
		s.drawn++
	}
	return t
}

// Text makes a text.
func (s *Store) Text(label string) int {
	return s.number(api.Node{Kind: api.Text, Label: label})
}

// Pair makes a pair.
func (s *Store) Pair(a, b int) int {
	return s.number(api.Node{Kind: api.Pair, A: a, B: b})
}

// Hash makes a hash.
func (s *Store) Hash(label string, a int) int {
	return s.number(api.Node{Kind: api.Hash, Label: label, A: a})
}

// Kdf derives.
func (s *Store) Kdf(label string, key, b int) int {
	return s.number(api.Node{Kind: api.Kdf, Label: label, A: key, B: b})
}

// Pub makes a public key.
func (s *Store) Pub(secret int) int {
	return s.number(api.Node{Kind: api.Pub, A: secret})
}

// Seal seals.
func (s *Store) Seal(key, plain int) int {
	return s.number(api.Node{Kind: api.Seal, A: key, B: plain})
}

// Box boxes.
func (s *Store) Box(pub, plain int) int {
	return s.number(api.Node{Kind: api.Box, A: pub, B: plain})
}

// Sign signs.
func (s *Store) Sign(secret, text int) int {
	return s.number(api.Node{Kind: api.Sign, A: secret, B: text})
}

// List makes a list.
func (s *Store) List(items []int) int {
	// All are asked for ahead: a number that isn't a term's yet could become that of a pair of this very list.
	for _, x := range items {
		if !s.has(x) {
			return 0
		}
	}
	rest := s.Text("")
	for i := len(items) - 1; i >= 0 && rest != 0; i-- {
		rest = s.Pair(items[i], rest)
	}
	return rest
}

// Open opens what was sealed.
func (s *Store) Open(key, t int) (int, bool) {
	n := s.node(t)
	if n.Kind != api.Seal || n.A != key {
		return 0, false
	}
	return n.B, true
}

// Unbox opens what was boxed.
func (s *Store) Unbox(secret, t int) (int, bool) {
	n := s.node(t)
	if n.Kind != api.Box || !s.isPub(n.A, secret) {
		return 0, false
	}
	return n.B, true
}

// Verify looks at a signature.
func (s *Store) Verify(pub, text, sig int) bool {
	n := s.node(sig)
	return n.Kind == api.Sign && n.B == text && s.isPub(pub, n.A)
}

// isPub tells whether a term is the public key of a secret.
func (s *Store) isPub(pub, secret int) bool {
	return s.node(pub) == api.Node{Kind: api.Pub, A: secret}
}

// Items takes a list apart.
func (s *Store) Items(t int) ([]int, bool) {
	var items []int
	// A part is made ahead of what it is a part of, so this comes to an end.
	for n := s.node(t); ; n = s.node(n.B) {
		if n == (api.Node{Kind: api.Text}) {
			return items, true
		}
		if n.Kind != api.Pair {
			return nil, false
		}
		items = append(items, n.A)
	}
}
