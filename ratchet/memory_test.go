package ratchet_test

import (
	"slices"
	"strconv"
	"testing"

	"conclave/api"
	"conclave/ratchet"
	"conclave/term"
)

const mark = -77

// some is a state with nodes, chains and kept keys, and its history.
func some(t *testing.T) (*term.Store, ratchet.State, history) {
	s, st, h := begin(8)
	for _, x := range []taken{{5, 4}, {1, 6}, {5, 2}, {1, 3}} {
		st, h = goOn(t, s, st, h, x.leaf, x.gen)
	}
	return s, st, h
}

// roomy is a copy of a state whose lists have marked spare room behind them.
func roomy(st ratchet.State) ratchet.State {
	r := ratchet.State{Leaves: st.Leaves, Nodes: slices.Repeat([]int{mark}, len(st.Nodes)+5)}
	copy(r.Nodes, st.Nodes)
	r.Nodes = r.Nodes[:len(st.Nodes)]
	for k := range len(st.Chains) + 3 {
		c := ratchet.Chain{Leaf: mark, Next: mark, Secret: mark}
		if k < len(st.Chains) {
			c = st.Chains[k]
		}
		kept := slices.Repeat([]ratchet.Key{{Gen: mark, Term: mark}}, len(c.Kept)+9)
		copy(kept, c.Kept)
		c.Kept = kept[:len(c.Kept)]
		r.Chains = append(r.Chains, c)
	}
	r.Chains = r.Chains[:len(st.Chains)]
	return r
}

// everything is a copy of a state, with all spare room laid open.
func everything(st ratchet.State) ratchet.State {
	c := ratchet.State{Leaves: st.Leaves, Nodes: slices.Clone(st.Nodes[:cap(st.Nodes)]), Chains: slices.Clone(st.Chains[:cap(st.Chains)])}
	for k, x := range c.Chains {
		c.Chains[k].Kept = slices.Clone(x.Kept[:cap(x.Kept)])
	}
	return c
}

// scribble writes over all that a state has, its spare room too.
func scribble(st ratchet.State) {
	scribbleList(st.Nodes)
	chains := st.Chains[:cap(st.Chains)]
	for k := range chains {
		kept := chains[k].Kept[:cap(chains[k].Kept)]
		for n := range kept {
			kept[n] = ratchet.Key{Gen: -55, Term: -55}
		}
		chains[k] = ratchet.Chain{Leaf: -55, Next: -55, Secret: -55}
	}
}

func scribbleList(list []int) {
	list = list[:cap(list)]
	for k := range list {
		list[k] = -55
	}
}

// everyTake goes through a chain that begins, one that goes on, kept keys, and each error.
var everyTake = [...]taken{{0, 0}, {4, 0}, {7, 7}, {1, 7}, {1, 14}, {5, 5}, {5, 9}, {5, 0}, {1, 0}, {5, 3}, {1, 5}, {5, 4}, {5, 13}, {5, -1}, {8, 0}, {-1, 0}}

// P8.4: what is handed in stays as it was, its spare room too, and shares no memory with what is answered.
func TestCallsShareNoMemory(t *testing.T) {
	s, first, _ := some(t)
	st := roomy(first)
	kept := everything(st)
	for _, x := range everyTake {
		what := "Take of " + strconv.Itoa(x.leaf) + ", " + strconv.Itoa(x.gen)
		one, _, e := ratchet.Take(s, st, x.leaf, x.gen)
		again, _, _ := ratchet.Take(s, st, x.leaf, x.gen)
		same := everything(again)
		scribble(one)
		wantState(t, what+": what it was handed", everything(st), kept)
		wantState(t, what+": what it answered before", everything(again), same)
		if third, _, f := ratchet.Take(s, st, x.leaf, x.gen); f != e || !sameState(third, again) {
			t.Errorf("%s answers %v, then %v", what, again, third)
		}
	}
	for leaf := -1; leaf <= 8; leaf++ {
		one, _, _, _ := ratchet.Send(s, st, leaf)
		scribble(one)
		wantState(t, "Send of "+strconv.Itoa(leaf), everything(st), kept)
	}
	all := ratchet.Terms(st)
	scribbleList(all)
	wantState(t, "Terms", everything(st), kept)
	a, b := ratchet.New(4, 3), ratchet.New(4, 3)
	scribble(a)
	wantState(t, "New", b, ratchet.State{Leaves: 4, Nodes: []int{0, 0, 0, 3, 0, 0, 0}})
}

// No two lists of keys lie in one memory, so that each may grow without another one's harm.
func TestListsOfAnAnswerShareNoMemory(t *testing.T) {
	s, st, _ := some(t)
	for _, x := range everyTake {
		behind, _, e := ratchet.Take(s, st, x.leaf, x.gen)
		if e != api.OK {
			continue
		}
		for k, c := range behind.Chains {
			kept := c.Kept[:cap(c.Kept)]
			for n := range kept {
				kept[n].Gen = 1000 + k
			}
		}
		for k, c := range behind.Chains {
			for _, key := range c.Kept[:cap(c.Kept)] {
				if key.Gen != 1000+k {
					t.Errorf("Take of %v: the chain %d shares memory: %v", x, k, behind.Chains)
				}
			}
		}
	}
}

// The same is answered again, with nothing more made; and in another store the like, whatever was made there ahead.
func TestAnswersHangOnWhatIsGiven(t *testing.T) {
	s, st, h := some(t)
	other := term.New()
	for k := range 40 {
		other.Kdf("next", other.Text(strconv.Itoa(k)), other.Text(""))
	}
	g := history{n: h.n, root: other.Fresh()}
	there := ratchet.New(g.n, g.root)
	for _, x := range h.taken {
		there, g = goOn(t, other, there, g, x.leaf, x.gen)
	}
	for _, x := range everyTake {
		goOn(t, s, st, h, x.leaf, x.gen)
		size := s.Len()
		goOn(t, s, st, h, x.leaf, x.gen)
		if s.Len() != size {
			t.Errorf("Take of %v made %d terms more", x, s.Len()-size)
		}
		goOn(t, other, there, g, x.leaf, x.gen)
	}
}

// Secrets are derived, never drawn: the next draw is still the one behind the last.
func TestNothingIsDrawn(t *testing.T) {
	s, _, _ := some(t)
	if n, _ := s.Get(s.Fresh()); n.A != 2 {
		t.Errorf("the next draw is the atom %d", n.A)
	}
}

// A call that answers an error makes no state.
func TestErrorsChangeNothing(t *testing.T) {
	s, first, h := some(t)
	st := roomy(first)
	kept := everything(st)
	for leaf := -2; leaf <= 9; leaf++ {
		for gen := -3; gen <= 20; gen++ {
			if h.refusal(leaf, gen) != api.OK {
				goOn(t, s, st, h, leaf, gen)
			}
		}
	}
	wantState(t, "behind errors", everything(st), kept)
}

// In a store that is full a call ends, too; what it answers is 0 or a term.
func TestFullStores(t *testing.T) {
	s, st, _ := begin(8)
	for k := 0; s.Len() < api.MaxTerms; k++ {
		if room := api.MaxTerms - s.Len(); room < 30 {
			st, _, _ = ratchet.Take(s, st, room%8, room%5)
		}
		s.Text("fill " + strconv.Itoa(k))
	}
	for leaf := range 8 {
		for range 20 {
			behind, _, key, e := ratchet.Send(s, st, leaf)
			if _, ok := s.Get(key); e != api.OK || !ok && key != 0 {
				t.Fatalf("Send of %d: %d, %d", leaf, key, e)
			}
			st = behind
		}
	}
	for _, x := range ratchet.Terms(st) {
		if _, ok := s.Get(x); !ok && x != 0 {
			t.Errorf("the state has %d", x)
		}
	}
}
