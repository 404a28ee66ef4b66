package ratchet_test

import (
	"slices"
	"strconv"
	"testing"

	"conclave/api"
	"conclave/ratchet"
	"conclave/term"
)

// What the chapter's words say, told of all keys that were taken at once, and not step by step: which were taken settles what is derived, kept and forgotten. Places are told by spans of leaves, not by the arithmetic of places.

type taken struct{ leaf, gen int }

type history struct {
	n, root int
	taken   []taken
}

// with is a history with one key more.
func (h history) with(leaf, gen int) history {
	return history{h.n, h.root, append(slices.Clone(h.taken), taken{leaf, gen})}
}

// begun tells whether one of the leaves from lo up to hi (without it) has a chain.
func (h history) begun(lo, hi int) bool {
	return slices.ContainsFunc(h.taken, func(x taken) bool { return lo <= x.leaf && x.leaf < hi })
}

func (h history) used(leaf, gen int) bool { return slices.Contains(h.taken, taken{leaf, gen}) }

func (h history) next(leaf int) int {
	next := 0
	for _, x := range h.taken {
		if x.leaf == leaf {
			next = max(next, x.gen+1)
		}
	}
	return next
}

// isKept is for a generation that has been derived.
func (h history) isKept(leaf, gen int) bool {
	return !h.used(leaf, gen) && gen >= h.next(leaf)-api.Window
}

func (h history) refusal(leaf, gen int) api.Errno {
	next := h.next(leaf)
	switch {
	case leaf < 0 || leaf >= h.n:
		return api.ErrIndex
	case gen < 0 || gen-next >= api.Window:
		return api.ErrGen
	case gen < next && !h.isKept(leaf, gen):
		return api.ErrUsed
	}
	return api.OK
}

func (h history) state(s *term.Store) ratchet.State {
	st := ratchet.State{Leaves: h.n, Nodes: make([]int, 2*h.n-1)}
	h.nodes(s, st.Nodes, 0, h.n, h.root, true)
	for leaf := range h.n {
		if h.begun(leaf, leaf+1) {
			st.Chains = append(st.Chains, h.chain(s, leaf))
		}
	}
	return st
}

// nodes sets the secrets of a span and of what is below it: a place has one as long as no leaf below it has a chain, once one below its parent has.
func (h history) nodes(s *term.Store, nodes []int, lo, hi, secret int, derived bool) {
	begun, mid := h.begun(lo, hi), (lo+hi)/2
	if derived && !begun {
		nodes[lo+hi-1] = secret
	}
	if hi-lo > 1 {
		h.nodes(s, nodes, lo, mid, s.Kdf("left", secret, s.Text("")), begun)
		h.nodes(s, nodes, mid, hi, s.Kdf("right", secret, s.Text("")), begun)
	}
}

func (h history) chain(s *term.Store, leaf int) ratchet.Chain {
	next := h.next(leaf)
	c := ratchet.Chain{Leaf: leaf, Next: next, Secret: modelSecret(s, h.n, h.root, leaf, next)}
	for gen := range next {
		if h.isKept(leaf, gen) {
			c.Kept = append(c.Kept, ratchet.Key{Gen: gen, Term: modelKey(s, h.n, h.root, leaf, gen)})
		}
	}
	return c
}

// modelSecret is a chain's secret for a generation.
func modelSecret(s *term.Store, n, root, leaf, gen int) int {
	none, secret := s.Text(""), root
	for lo, hi := 0, n; hi-lo > 1; {
		if mid := (lo + hi) / 2; leaf < mid {
			secret, hi = s.Kdf("left", secret, none), mid
		} else {
			secret, lo = s.Kdf("right", secret, none), mid
		}
	}
	for range gen {
		secret = s.Kdf("next", secret, none)
	}
	return secret
}

func modelKey(s *term.Store, n, root, leaf, gen int) int {
	return s.Kdf("key", modelSecret(s, n, root, leaf, gen), s.Text(""))
}

// modelTerms are a state's terms, in the order of the words.
func modelTerms(st ratchet.State) []int {
	all := slices.DeleteFunc(slices.Clone(st.Nodes), func(x int) bool { return x == 0 })
	for _, c := range st.Chains {
		all = append(all, c.Secret)
		for _, k := range c.Kept {
			all = append(all, k.Term)
		}
	}
	return all
}

func sameChain(a, b ratchet.Chain) bool {
	return a.Leaf == b.Leaf && a.Next == b.Next && a.Secret == b.Secret && slices.Equal(a.Kept, b.Kept)
}

func sameState(a, b ratchet.State) bool {
	return a.Leaves == b.Leaves && slices.Equal(a.Nodes, b.Nodes) && slices.EqualFunc(a.Chains, b.Chains, sameChain)
}

func isNothing(st ratchet.State) bool { return sameState(st, ratchet.State{}) }

func (h history) String() string {
	text := "n " + strconv.Itoa(h.n) + ", taken"
	for _, x := range h.taken {
		text += " " + strconv.Itoa(x.leaf) + "." + strconv.Itoa(x.gen)
	}
	return text
}

func wantState(t *testing.T, what string, got, want ratchet.State) {
	t.Helper()
	if !sameState(got, want) {
		t.Fatalf("%s:\n got %v\nwant %v", what, got, want)
	}
}

// goOn takes a key and holds all that is answered against the words; what comes of it, and the history behind it.
func goOn(t *testing.T, s *term.Store, st ratchet.State, h history, leaf, gen int) (ratchet.State, history) {
	t.Helper()
	what := "Take of " + strconv.Itoa(leaf) + ", " + strconv.Itoa(gen) + " behind " + h.String()
	behind, key, e := ratchet.Take(s, st, leaf, gen)
	if want := h.refusal(leaf, gen); e != want {
		t.Fatalf("%s: error %d, not %d", what, e, want)
	}
	if e != api.OK {
		if key != 0 || !isNothing(behind) {
			t.Fatalf("%s: %v, %d beside the error %d", what, behind, key, e)
		}
		return st, h
	}
	if want := modelKey(s, h.n, h.root, leaf, gen); key != want || key == 0 {
		t.Fatalf("%s: the key %d, not %d", what, key, want)
	}
	wantState(t, "what it was handed, "+what, st, h.state(s))
	h = h.with(leaf, gen)
	wantState(t, what, behind, h.state(s))
	if got, want := ratchet.Terms(behind), modelTerms(behind); !slices.Equal(got, want) {
		t.Fatalf("Terms behind %s: %v, not %v", what, got, want)
	}
	return behind, h
}

// goOnSending is goOn of Send.
func goOnSending(t *testing.T, s *term.Store, st ratchet.State, h history, leaf int) (ratchet.State, history) {
	t.Helper()
	what := "Send of " + strconv.Itoa(leaf) + " behind " + h.String()
	behind, gen, key, e := ratchet.Send(s, st, leaf)
	if e != api.OK || gen != h.next(leaf) || key != modelKey(s, h.n, h.root, leaf, gen) {
		t.Fatalf("%s: generation %d, key %d, error %d", what, gen, key, e)
	}
	h = h.with(leaf, gen)
	wantState(t, what, behind, h.state(s))
	return behind, h
}
