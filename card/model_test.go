package card_test

import (
	"strconv"
	"strings"
	"testing"

	"conclave/api"
	"conclave/card"
	"conclave/term"
)

// What the chapter's words say, as text and not as terms: an atom as a and its number, a text in quotes, a list in brackets, a public key as pub(secret), a hash as label#of, a signature as sign(secret text), what is no term as nothing.

const nothing = "nothing"

func written(s *term.Store, t int) string {
	n, ok := s.Get(t)
	if items, isList := s.Items(t); isList && len(items) > 0 {
		var parts []string
		for _, x := range items {
			parts = append(parts, written(s, x))
		}
		return list(parts...)
	}
	switch {
	case !ok:
		return nothing
	case n.Kind == api.Atom:
		return "a" + strconv.Itoa(n.A)
	case n.Kind == api.Text:
		return strconv.Quote(n.Label)
	case n.Kind == api.Pub:
		return pub(written(s, n.A))
	case n.Kind == api.Hash:
		return hash(n.Label, written(s, n.A))
	case n.Kind == api.Sign:
		return sign(written(s, n.A), written(s, n.B))
	}
	return "some other term"
}

func list(parts ...string) string     { return "[" + strings.Join(parts, " ") + "]" }
func number(n int) string             { return `"` + strconv.Itoa(n) + `"` }
func hash(label, of string) string    { return label + "#" + of }
func pub(secret string) string        { return "pub(" + secret + ")" }
func sign(secret, text string) string { return "sign(" + secret + " " + text + ")" }

// modelCard is a card with its terms as text.
type modelCard struct {
	client          int
	init, leaf, sig string
	until           int
	mark            string
}

func modelOf(s *term.Store, c card.Card) modelCard {
	return modelCard{c.Client, written(s, c.Init), written(s, c.Leaf), written(s, c.Sig), c.Until, written(s, c.Mark)}
}

func (m modelCard) body() string {
	if m.init == nothing || m.leaf == nothing || m.sig == nothing {
		return nothing
	}
	return list(number(m.client), m.init, m.leaf, m.sig, number(m.until))
}

func (m modelCard) signed() string {
	if m.body() == nothing {
		return nothing
	}
	return hash("card", m.body())
}

func (m modelCard) ref() string {
	if m.body() == nothing || m.mark == nothing {
		return nothing
	}
	return hash("ref", list(m.body(), m.mark))
}

// modelMake has its secrets as text, those that are no terms as nothing.
func modelMake(client int, sig, init, leaf string, until int) modelCard {
	m := modelCard{client: client, init: modelPub(init), leaf: modelPub(leaf), sig: modelPub(sig), until: until, mark: nothing}
	if sig != nothing && m.signed() != nothing {
		m.mark = sign(sig, m.signed())
	}
	return m
}

func modelPub(secret string) string {
	if secret == nothing {
		return nothing
	}
	return pub(secret)
}

// modelCheck has who is who as text, too: of what is no term it isn't asked whether two are the same number, for no card with such a Sig is right.
func modelCheck(m modelCard, now int, who []string) api.Errno {
	if m.client < 0 || m.client > len(who)-1 || m.sig != who[m.client] {
		return api.ErrCard
	}
	secret, isPub := strings.CutPrefix(m.sig, "pub(")
	if !isPub || !strings.HasPrefix(m.init, "pub(") || !strings.HasPrefix(m.leaf, "pub(") {
		return api.ErrCard
	}
	if m.mark != sign(strings.TrimSuffix(secret, ")"), m.signed()) {
		return api.ErrCard
	}
	if m.until < now {
		return api.ErrLate
	}
	return api.OK
}

func writtenAll(s *term.Store, terms []int) []string {
	var all []string
	for _, x := range terms {
		all = append(all, written(s, x))
	}
	return all
}

func wantTerm(t *testing.T, what string, s *term.Store, got int, want string) {
	t.Helper()
	if text := written(s, got); text != want {
		t.Errorf("%s:\n got %s\nwant %s", what, text, want)
	}
	if want == nothing {
		wantZero(t, what, got)
	}
}

// wantZero asks for 0 itself: any other number that is no term reads as nothing, too.
func wantZero(t *testing.T, what string, got int) {
	t.Helper()
	if got != 0 {
		t.Errorf("%s: %d, not 0", what, got)
	}
}

func wantCard(t *testing.T, what string, s *term.Store, c card.Card, want modelCard) {
	t.Helper()
	if c.Client != want.client || c.Until != want.until {
		t.Errorf("%s: of %d until %d, not of %d until %d", what, c.Client, c.Until, want.client, want.until)
	}
	wantTerm(t, what+", Init", s, c.Init, want.init)
	wantTerm(t, what+", Leaf", s, c.Leaf, want.leaf)
	wantTerm(t, what+", Sig", s, c.Sig, want.sig)
	wantTerm(t, what+", Mark", s, c.Mark, want.mark)
}

func wantErrno(t *testing.T, what string, got, want api.Errno) {
	t.Helper()
	if got != want {
		t.Errorf("%s: the error %d, not %d", what, got, want)
	}
}
