package ratchet_test

import (
	"math"
	"math/rand"
	"slices"
	"strconv"
	"testing"

	"conclave/api"
	"conclave/ratchet"
	"conclave/term"
)

// sizes are how many leaves a tree may have.
var sizes = [...]int{1, 2, 4, 8, 16, api.MaxLeaves}

// begin is a store with a root secret, an epoch's ratchets of it, and nothing taken.
func begin(n int) (*term.Store, ratchet.State, history) {
	s := term.New()
	root := s.Fresh()
	return s, ratchet.New(n, root), history{n: n, root: root}
}

// P8.1

func TestNew(t *testing.T) {
	roots := [][]int{{7}, {0, 7, 0}, {0, 0, 0, 7, 0, 0, 0}}
	for k, nodes := range roots {
		wantState(t, "New of "+strconv.Itoa(sizes[k]), ratchet.New(sizes[k], 7), ratchet.State{Leaves: sizes[k], Nodes: nodes})
	}
	for _, n := range sizes {
		for _, root := range []int{0, 1, -1, api.MaxTerms + 1, math.MaxInt, math.MinInt} {
			nodes := make([]int, 2*n-1)
			nodes[n-1] = root
			wantState(t, "New of "+strconv.Itoa(n), ratchet.New(n, root), ratchet.State{Leaves: n, Nodes: nodes})
		}
	}
}

// Where there is no such tree there is nothing, and no leaf.
func TestNewOfNoTree(t *testing.T) {
	s := term.New()
	root := s.Fresh()
	for _, n := range []int{0, -1, -2, 3, 5, 6, 7, 12, 31, 33, 2 * api.MaxLeaves, 1 << 62, math.MaxInt, math.MinInt} {
		st := ratchet.New(n, root)
		wantState(t, "New of "+strconv.Itoa(n), st, ratchet.State{})
		if l := ratchet.Terms(st); len(l) != 0 {
			t.Errorf("%d leaves: the terms %v", n, l)
		}
		for _, leaf := range []int{-1, 0, 1, n - 1, n} {
			if x, key, e := ratchet.Take(s, st, leaf, 0); e != api.ErrIndex || key != 0 || !isNothing(x) {
				t.Errorf("%d leaves, Take of %d: %v, %d, %d", n, leaf, x, key, e)
			}
			if x, gen, key, e := ratchet.Send(s, st, leaf); e != api.ErrIndex || gen != 0 || key != 0 || !isNothing(x) {
				t.Errorf("%d leaves, Send of %d: %v, %d, %d, %d", n, leaf, x, gen, key, e)
			}
		}
	}
}

// P8.2: the examples

func TestExamples(t *testing.T) {
	s := term.New()
	r, none := s.Fresh(), s.Text("")
	st, gen, key, e := ratchet.Send(s, ratchet.New(2, r), 1)
	c := s.Kdf("right", r, none)
	if e != api.OK || gen != 0 || key != s.Kdf("key", c, none) || !slices.Equal(st.Nodes, []int{s.Kdf("left", r, none), 0, 0}) {
		t.Errorf("Send: %v, %d, %d, %d", st, gen, key, e)
	}
	if _, _, e := ratchet.Take(s, st, 1, 0); e != api.ErrUsed {
		t.Errorf("Take of 0: %d", e)
	}
	st, _, e = ratchet.Take(s, st, 1, 3)
	first := s.Kdf("next", c, none)
	second := s.Kdf("next", first, none)
	kept := []ratchet.Key{{Gen: 1, Term: s.Kdf("key", first, none)}, {Gen: 2, Term: s.Kdf("key", second, none)}}
	if e != api.OK || len(st.Chains) != 1 || st.Chains[0].Next != 4 || !slices.Equal(st.Chains[0].Kept, kept) {
		t.Errorf("Take of 3: %v, %d", st, e)
	}
	if _, _, e := ratchet.Take(s, st, 1, 12); e != api.ErrGen {
		t.Errorf("Take of 12: %d", e)
	}
	st, key, e = ratchet.Take(s, st, 1, 2)
	if e != api.OK || key != kept[1].Term || !slices.Equal(st.Chains[0].Kept, kept[:1]) {
		t.Errorf("Take of 2: %v, %d, %d", st, key, e)
	}
	if _, _, e := ratchet.Take(s, st, 1, 2); e != api.ErrUsed {
		t.Errorf("Take of 2 once more: %d", e)
	}
}

// Two leaves of four, made by the store's own calls.
func TestFirstChains(t *testing.T) {
	s := term.New()
	r, none := s.Fresh(), s.Text("")
	left, right := s.Kdf("left", r, none), s.Kdf("right", r, none)
	leaves := []int{s.Kdf("left", left, none), s.Kdf("right", left, none), s.Kdf("left", right, none), s.Kdf("right", right, none)}
	chain := func(leaf int) ratchet.Chain {
		return ratchet.Chain{Leaf: leaf, Next: 1, Secret: s.Kdf("next", leaves[leaf], none)}
	}
	st, key, e := ratchet.Take(s, ratchet.New(4, r), 2, 0)
	wantState(t, "behind the leaf 2", st, ratchet.State{Leaves: 4, Nodes: []int{0, left, 0, 0, 0, 0, leaves[3]}, Chains: []ratchet.Chain{chain(2)}})
	if e != api.OK || key != s.Kdf("key", leaves[2], none) {
		t.Errorf("the key of the leaf 2: %d, %d", key, e)
	}
	st, key, e = ratchet.Take(s, st, 0, 0)
	wantState(t, "behind the leaf 0", st, ratchet.State{Leaves: 4, Nodes: []int{0, 0, leaves[1], 0, 0, 0, leaves[3]}, Chains: []ratchet.Chain{chain(0), chain(2)}})
	if e != api.OK || key != s.Kdf("key", leaves[0], none) {
		t.Errorf("the key of the leaf 0: %d, %d", key, e)
	}
	st, _, _ = ratchet.Take(s, st, 3, 0)
	wantState(t, "behind the leaf 3", st, ratchet.State{Leaves: 4, Nodes: []int{0, 0, leaves[1], 0, 0, 0, 0}, Chains: []ratchet.Chain{chain(0), chain(2), chain(3)}})
}

// The tree of one leaf: its root is the leaf.
func TestOneLeaf(t *testing.T) {
	s, st, h := begin(1)
	st, h = goOn(t, s, st, h, 0, 0)
	if st.Nodes[0] != 0 || st.Chains[0].Secret != s.Kdf("next", h.root, s.Text("")) {
		t.Errorf("%v", st)
	}
	for _, gen := range []int{3, 1, 1, 11, 2, 3, 4, 10, 10} {
		st, h = goOn(t, s, st, h, 0, gen)
	}
}

// P8.2: who begins ahead of whom

// orders are all orders of the numbers below n.
func orders(n int) [][]int {
	if n == 0 {
		return [][]int{nil}
	}
	var all [][]int
	for _, order := range orders(n - 1) {
		for at := range n {
			all = append(all, slices.Insert(slices.Clone(order), at, n-1))
		}
	}
	return all
}

func TestLeavesBeginInEveryOrder(t *testing.T) {
	for _, n := range []int{1, 2, 4} {
		s, first, h := begin(n)
		for _, order := range orders(n) {
			st, g := first, h
			for k, leaf := range order {
				st, g = goOn(t, s, st, g, leaf, k)
			}
			if l := slices.DeleteFunc(slices.Clone(st.Nodes), func(x int) bool { return x == 0 }); len(l) != 0 {
				t.Errorf("%v: %v are left", order, l)
			}
		}
	}
}

func TestManyLeavesBegin(t *testing.T) {
	r := rand.New(rand.NewSource(1))
	for _, n := range sizes {
		s, first, h := begin(n)
		for range 8 {
			st, g := first, h
			for _, leaf := range r.Perm(n) {
				st, g = goOn(t, s, st, g, leaf, r.Intn(api.Window))
			}
		}
	}
}

// P8.2: which generations are to be had

// Every short history of one chain, with generations up to well past what may be derived.
func TestEveryShortHistory(t *testing.T) {
	s, first, h := begin(1)
	var walk func(st ratchet.State, h history, steps, upTo int)
	walk = func(st ratchet.State, h history, steps, upTo int) {
		if steps == 0 {
			return
		}
		for gen := -1; gen <= upTo; gen++ {
			behind, g := goOn(t, s, st, h, 0, gen)
			if len(g.taken) > len(h.taken) {
				walk(behind, g, steps-1, upTo)
			}
		}
	}
	walk(first, h, 3, 3*api.Window)
	walk(first, h, 4, api.Window+3)
}

func TestTheWindowsEnds(t *testing.T) {
	for _, next := range []int{0, 1, 2, 5, api.Window - 1, api.Window, api.Window + 1, 3 * api.Window, 100} {
		s, st, h := begin(2)
		for h.next(1) < next {
			st, h = goOn(t, s, st, h, 1, h.next(1))
		}
		wantErrors(t, s, st, 1, api.ErrGen, -1, -api.Window, math.MinInt, math.MinInt+1)
		wantErrors(t, s, st, 1, api.ErrGen, next+api.Window, next+api.Window+1, next+1000, api.MaxGen, math.MaxInt-api.Window, math.MaxInt)
		wantErrors(t, s, st, 1, api.OK, next, next+1, next+api.Window-1)
		for gen := range next {
			wantErrors(t, s, st, 1, api.ErrUsed, gen)
		}
	}
}

// wantErrors asks each generation of one state.
func wantErrors(t *testing.T, s *term.Store, st ratchet.State, leaf int, want api.Errno, gens ...int) {
	t.Helper()
	for _, gen := range gens {
		behind, key, e := ratchet.Take(s, st, leaf, gen)
		if e != want || (e != api.OK) != (key == 0) || (e != api.OK) != isNothing(behind) {
			t.Errorf("of %v, Take of %d, %d: %v, %d, error %d, not %d", st, leaf, gen, behind, key, e, want)
		}
	}
}

// What is kept is kept as long as it is within the window, and not longer.
func TestKeptKeysGoOutOfTheWindow(t *testing.T) {
	s, st, h := begin(4)
	st, h = goOn(t, s, st, h, 2, 5)
	gens := func(st ratchet.State) []int {
		var all []int
		for _, k := range st.Chains[0].Kept {
			all = append(all, k.Gen)
		}
		return all
	}
	for _, c := range []struct {
		gen  int
		kept []int
	}{
		{7, []int{0, 1, 2, 3, 4, 6}},
		{8, []int{1, 2, 3, 4, 6}},
		{2, []int{1, 3, 4, 6}},
		{10, []int{3, 4, 6, 9}},
		{3, []int{4, 6, 9}},
		{18, []int{11, 12, 13, 14, 15, 16, 17}},
		{26, []int{19, 20, 21, 22, 23, 24, 25}},
		{19, []int{20, 21, 22, 23, 24, 25}},
	} {
		st, h = goOn(t, s, st, h, 2, c.gen)
		if got := gens(st); !slices.Equal(got, c.kept) {
			t.Errorf("behind %d: %v are kept, not %v", c.gen, got, c.kept)
		}
	}
	for gen := range 20 {
		wantErrors(t, s, st, 2, api.ErrUsed, gen)
	}
}

// P8.2: no such leaf, which is told ahead of what is wrong with the generation.
func TestWrongLeaves(t *testing.T) {
	for _, n := range sizes {
		s, st, h := begin(n)
		behind, _ := goOn(t, s, st, h, n-1, 3)
		for _, leaf := range []int{-1, -2, -n, n, n + 1, 2*n - 2, 2 * n, api.MaxLeaves, 1 << 62, 1<<62 + 1, math.MaxInt, math.MinInt, math.MinInt + 1} {
			if leaf >= 0 && leaf < n {
				continue
			}
			for _, x := range []ratchet.State{st, behind} {
				for _, gen := range []int{0, 1, -1, 3, api.Window, math.MaxInt, math.MinInt} {
					if y, key, e := ratchet.Take(s, x, leaf, gen); e != api.ErrIndex || key != 0 || !isNothing(y) {
						t.Errorf("%d leaves, Take of %d, %d: %v, %d, %d", n, leaf, gen, y, key, e)
					}
				}
				if y, gen, key, e := ratchet.Send(s, x, leaf); e != api.ErrIndex || gen != 0 || key != 0 || !isNothing(y) {
					t.Errorf("%d leaves, Send of %d: %v, %d, %d, %d", n, leaf, y, gen, key, e)
				}
			}
		}
	}
}

// What lacks its places has no leaf, either.
func TestStatesWithoutPlaces(t *testing.T) {
	s := term.New()
	for _, n := range sizes {
		wantErrors(t, s, ratchet.State{Leaves: n}, 0, api.ErrIndex, 0, -1, api.Window)
		wantErrors(t, s, ratchet.State{Leaves: n, Nodes: make([]int, n-1)}, n-1, api.ErrIndex, 0, -1, api.Window)
	}
}

// P8.2 to P8.4: long histories

func TestLongHistories(t *testing.T) {
	for seed := range 24 {
		r := rand.New(rand.NewSource(int64(seed)))
		n := sizes[seed%len(sizes)]
		s, st, h := begin(n)
		for range 150 {
			leaf := r.Intn(n + 1)
			if r.Intn(3) > 0 {
				leaf = r.Intn(min(n, 3))
			}
			if r.Intn(3) == 0 && leaf < n {
				st, h = goOnSending(t, s, st, h, leaf)
			} else {
				st, h = goOn(t, s, st, h, leaf, h.next(leaf)-12+r.Intn(22))
			}
		}
	}
}

// What a member sends all others can take, each text once, in any order within the window.
func TestMembersMeet(t *testing.T) {
	for seed := range 12 {
		r := rand.New(rand.NewSource(int64(seed)))
		s, st, _ := begin(4)
		members := slices.Repeat([]ratchet.State{st}, 4)
		for range 10 {
			from := r.Intn(4)
			var gens, keys []int
			for range api.Window {
				behind, gen, key, e := ratchet.Send(s, members[from], from)
				if e != api.OK {
					t.Fatalf("Send of %d: %d", from, e)
				}
				members[from], gens, keys = behind, append(gens, gen), append(keys, key)
			}
			for to := range members {
				for _, k := range r.Perm(len(gens)) {
					behind, key, e := ratchet.Take(s, members[to], from, gens[k])
					if to == from {
						if e != api.ErrUsed {
							t.Errorf("Take of one's own %d, %d: %d", from, gens[k], e)
						}
						continue
					}
					if e != api.OK || key != keys[k] {
						t.Errorf("Take of %d, %d: %d, not %d; %d", from, gens[k], key, keys[k], e)
					}
					members[to] = behind
				}
			}
			for to := range members {
				if !sameState(members[to], members[from]) {
					t.Errorf("%d has %v, %d %v", to, members[to], from, members[from])
				}
			}
		}
	}
}

// No two keys are one.
func TestKeysAreApart(t *testing.T) {
	s, st, _ := begin(api.MaxLeaves)
	seen := map[int]int{}
	for leaf := range api.MaxLeaves {
		for k := range 20 {
			behind, gen, key, e := ratchet.Send(s, st, leaf)
			if e != api.OK || gen != k || seen[key] != 0 {
				t.Fatalf("Send of %d: generation %d, error %d, the key %d was seen %d", leaf, gen, e, key, seen[key])
			}
			st, seen[key] = behind, 1
		}
	}
}

// Whatever was used or is out of the window can't be derived from what the state still has, nor from what its lists have in their spare room; whatever is still to be had can.
func TestWhatIsForgottenIsGone(t *testing.T) {
	for seed := range 12 {
		r := rand.New(rand.NewSource(int64(seed)))
		s, st, h := begin(8)
		for range 40 {
			leaf := r.Intn(3) * 3
			st, h = goOn(t, s, st, h, leaf, max(0, h.next(leaf)-api.Window+r.Intn(2*api.Window)))
		}
		held := everyNumber(st)
		for leaf := range h.n {
			for gen := range h.next(leaf) + api.Window {
				key := modelKey(s, h.n, h.root, leaf, gen)
				want := h.refusal(leaf, gen) == api.OK
				if comesOf(s, key, held) != want {
					t.Fatalf("%v: the key of %d, %d can be derived: %v", h, leaf, gen, !want)
				}
			}
		}
	}
}

// everyNumber are all numbers of a state that may be terms, with those in spare room.
func everyNumber(st ratchet.State) []int {
	all := slices.Clone(st.Nodes[:cap(st.Nodes)])
	for _, c := range st.Chains[:cap(st.Chains)] {
		all = append(all, c.Secret)
		for _, k := range c.Kept[:cap(c.Kept)] {
			all = append(all, k.Term)
		}
	}
	return all
}

// comesOf tells whether a term is held, or derived from a key that is.
func comesOf(s *term.Store, t int, held []int) bool {
	for t != 0 && !slices.Contains(held, t) {
		n, _ := s.Get(t)
		if n.Kind != api.Kdf {
			return false
		}
		t = n.A
	}
	return t != 0
}

// P8.3

func TestSend(t *testing.T) {
	s, st, h := begin(2)
	st, h = goOnSending(t, s, st, h, 0)
	st, h = goOnSending(t, s, st, h, 0)
	st, h = goOn(t, s, st, h, 0, 5)
	st, h = goOnSending(t, s, st, h, 0)
	if st.Chains[0].Next != 7 || len(st.Chains[0].Kept) != 3 {
		t.Errorf("%v", st)
	}
	for range 5 {
		st, h = goOnSending(t, s, st, h, 0)
	}
	if kept := st.Chains[0].Kept; len(kept) != 1 || kept[0].Gen != 4 {
		t.Errorf("%v", kept)
	}
	st, h = goOnSending(t, s, st, h, 1)
	if x, key, e := ratchet.Take(s, st, 1, 0); e != api.ErrUsed || key != 0 || !isNothing(x) {
		t.Errorf("Take of what was sent: %v, %d, %d", x, key, e)
	}
}

// Send is Take of Next, for each leaf of each tree.
func TestSendIsTake(t *testing.T) {
	for _, n := range sizes {
		s, st, _ := begin(n)
		for leaf := range n {
			for k := range 3 {
				x, key, _ := ratchet.Take(s, st, leaf, k)
				y, gen, same, e := ratchet.Send(s, st, leaf)
				if e != api.OK || gen != k || key != same || !sameState(x, y) {
					t.Fatalf("%d leaves, %d, %d: %v, %d, %d, %d", n, leaf, k, y, gen, same, e)
				}
				st = y
			}
		}
	}
}

// upTo is the state of a tree of two leaves whose leaf 1 has a Next as great as that. A store has no room for so long a chain; where there is no root secret none is needed.
func upTo(t *testing.T, s *term.Store, next int) ratchet.State {
	st := ratchet.New(2, 0)
	for gen := -1; gen < next-1; {
		gen = min(gen+api.Window, next-1)
		behind, _, e := ratchet.Take(s, st, 1, gen)
		if e != api.OK {
			t.Fatalf("Take of %d: %d", gen, e)
		}
		st = behind
	}
	return st
}

func TestTheLastGenerationThatIsSent(t *testing.T) {
	s := term.New()
	st := upTo(t, s, api.MaxGen)
	for gen := api.MaxGen; gen <= api.MaxGen+2; gen++ {
		behind, sent, _, e := ratchet.Send(s, st, 1)
		if gen == api.MaxGen && (e != api.OK || sent != gen || behind.Chains[0].Next != gen+1) {
			t.Errorf("Send of MaxGen: %v, %d, %d", behind, sent, e)
		}
		if gen > api.MaxGen && (e != api.ErrGen || sent != 0 || !isNothing(behind)) {
			t.Errorf("Send of %d: %v, %d, %d", gen, behind, sent, e)
		}
		// Others' generations have no such bound, and another leaf's chain is one of its own.
		if _, _, e := ratchet.Take(s, st, 1, gen+api.Window-1); e != api.OK {
			t.Errorf("Take of %d: %d", gen+api.Window-1, e)
		}
		if _, sent, _, e := ratchet.Send(s, st, 0); sent != 0 || e != api.OK {
			t.Errorf("Send of the leaf 0: %d, %d", sent, e)
		}
		if _, _, _, e := ratchet.Send(s, st, 2); e != api.ErrIndex {
			t.Errorf("Send of no leaf: %d", e)
		}
		st, _, e = ratchet.Take(s, st, 1, gen)
		if e != api.OK {
			t.Fatalf("Take of %d: %d", gen, e)
		}
	}
}

// P8.4

func TestTerms(t *testing.T) {
	s := term.New()
	r, none := s.Fresh(), s.Text("")
	st := ratchet.New(4, r)
	if l := ratchet.Terms(st); !slices.Equal(l, []int{r}) {
		t.Errorf("at first: %v", l)
	}
	st, _, _ = ratchet.Take(s, st, 2, 2)
	st, _, _ = ratchet.Take(s, st, 0, 1)
	left, right := s.Kdf("left", r, none), s.Kdf("right", r, none)
	second, fourth := s.Kdf("right", left, none), s.Kdf("right", right, none)
	a, b := modelSecret(s, 4, r, 0, 2), modelSecret(s, 4, r, 2, 3)
	want := []int{second, fourth, a, modelKey(s, 4, r, 0, 0), b, modelKey(s, 4, r, 2, 0), modelKey(s, 4, r, 2, 1)}
	if l := ratchet.Terms(st); !slices.Equal(l, want) {
		t.Errorf("%v, not %v", l, want)
	}
	st, _, _ = ratchet.Take(s, st, 2, 0)
	want = slices.Delete(want, 5, 6)
	if l := ratchet.Terms(st); !slices.Equal(l, want) {
		t.Errorf("behind a kept one: %v, not %v", l, want)
	}
}

// A root that is no term: nothing can be derived of it, then or later; generations count all the same.
func TestRootsThatAreNoTerms(t *testing.T) {
	for _, root := range []int{0, -1, 1, 2, 3, 4, 5, 6, 7, 8, api.MaxTerms + 1, math.MaxInt, math.MinInt} {
		for _, n := range sizes {
			s := term.New()
			st, key, e := ratchet.Take(s, ratchet.New(n, root), n-1, 2)
			want := ratchet.State{Leaves: n, Nodes: make([]int, 2*n-1), Chains: []ratchet.Chain{{Leaf: n - 1, Next: 3, Kept: []ratchet.Key{{Gen: 0}, {Gen: 1}}}}}
			if e != api.OK || key != 0 {
				t.Errorf("the root %d, Take: %d, %d", root, key, e)
			}
			wantState(t, "the root "+strconv.Itoa(root), st, want)
			_, gen, key, e := ratchet.Send(s, st, n-1)
			if e != api.OK || gen != 3 || key != 0 {
				t.Errorf("the root %d, Send: %d, %d, %d", root, gen, key, e)
			}
			if _, key, e := ratchet.Take(s, st, 0, 1); e != api.OK || key != 0 {
				t.Errorf("the root %d, Take of the leaf 0: %d, %d", root, key, e)
			}
		}
	}
}
