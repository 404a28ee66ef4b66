package kem_test

import (
	"reflect"
	"slices"
	"testing"

	"conclave/api"
	"conclave/kem"
	"conclave/term"
)

// What is handed in stays as it was, its spare room too, and shares no memory with what is answered.

const mark = -77

// roomy is a copy of a list with spare room behind it, marked throughout.
func roomy(list []int) []int {
	r := slices.Repeat([]int{mark}, len(list)+4)
	copy(r, list)
	return r[:len(list)]
}

func roomyTree(a []api.Vertex) []api.Vertex {
	r := make([]api.Vertex, len(a)+9)
	for x := range r {
		r[x] = api.Vertex{Full: true, Key: mark, Client: mark, Sig: mark, Hash: mark, Late: []int{mark}}
	}
	for x, v := range a {
		r[x] = v
		r[x].Late = roomy(v.Late)
	}
	return r[:len(a)]
}

func roomySecrets(list []kem.Secret) []kem.Secret {
	r := slices.Repeat([]kem.Secret{{Place: mark, Term: mark}}, len(list)+4)
	copy(r, list)
	return r[:len(list)]
}

func roomyPath(p kem.Path) kem.Path {
	boxes := make([][]int, len(p.Boxes)+4)
	for k := range boxes {
		boxes[k] = []int{mark}
	}
	for k, list := range p.Boxes {
		boxes[k] = roomy(list)
	}
	return kem.Path{Leaf: p.Leaf, Hash: p.Hash, Keys: roomy(p.Keys), Boxes: boxes[:len(p.Boxes)]}
}

// given is all that is handed in to a call, each list with spare room.
type given struct {
	s     *term.Store
	a     []api.Vertex
	list  []kem.Secret
	p     kem.Path
	fresh []int
}

// someGiven has a store of its own, in which its path was made: what a call does with it hangs on no call ahead.
func someGiven(t *testing.T) given {
	s := drawn()
	a := mixed()
	fresh := []int{6, 3}
	return given{s, roomyTree(a), roomySecrets(everySecret(a)), roomyPath(made(t, s, a, 2, fresh...).Path), roomy(fresh)}
}

// everything is a copy of what is given, with all spare room.
func (g given) everything() given {
	c := given{a: slices.Clone(g.a[:cap(g.a)]), list: slices.Clone(g.list[:cap(g.list)]), fresh: slices.Clone(g.fresh[:cap(g.fresh)])}
	for x, v := range c.a {
		c.a[x].Late = slices.Clone(v.Late[:cap(v.Late)])
	}
	c.p = kem.Path{Leaf: g.p.Leaf, Hash: g.p.Hash, Keys: slices.Clone(g.p.Keys[:cap(g.p.Keys)])}
	for _, list := range g.p.Boxes[:cap(g.p.Boxes)] {
		c.p.Boxes = append(c.p.Boxes, slices.Clone(list[:cap(list)]))
	}
	return c
}

// scribble writes over all that an answer has, its spare room too.
func scribble(m kem.Made) {
	for x := range m.Tree[:cap(m.Tree)] {
		v := &m.Tree[:cap(m.Tree)][x]
		scribbleList(v.Late)
		*v = api.Vertex{Key: -55}
	}
	for _, list := range m.Path.Boxes {
		scribbleList(list)
	}
	clear(m.Path.Boxes[:cap(m.Path.Boxes)])
	scribbleList(m.Path.Keys)
	scribbleSecrets(m.Secrets)
}

func scribbleList(list []int) {
	list = list[:cap(list)]
	for k := range list {
		list[k] = -55
	}
}

func scribbleSecrets(list []kem.Secret) {
	list = list[:cap(list)]
	for k := range list {
		list[k] = kem.Secret{Place: -55, Term: -55}
	}
}

func TestCallsShareNoMemory(t *testing.T) {
	known := roomySecrets(knownTo(mixed(), 4))
	for _, c := range []struct {
		name string
		call func(g given) kem.Made
	}{
		{"Make", func(g given) kem.Made { m, _ := kem.Make(g.s, g.a, 2, newLeaf, start, g.fresh); return m }},
		{"Apply", func(g given) kem.Made { m, _ := kem.Apply(g.s, g.a, 4, known, 2, g.p, g.fresh); return m }},
		{"Trim", func(g given) kem.Made { return kem.Made{Secrets: kem.Trim(g.a, 3, g.list)} }},
		{"Climb", func(g given) kem.Made { return kem.Made{Secrets: kem.Climb(g.s, g.a, 2, 3, start)} }},
	} {
		g := someGiven(t)
		kept := g.everything()
		one, again := c.call(g), c.call(g)
		if len(one.Secrets) == 0 {
			t.Fatalf("%s: nothing", c.name)
		}
		scribble(one)
		if !reflect.DeepEqual(g.everything(), kept) {
			t.Errorf("%s changes what is handed in: %v", c.name, g.everything())
		}
		if third := c.call(g); !sameMade(again, third) {
			t.Errorf("%s answers memory that it answered before: %v", c.name, again)
		}
		if !reflect.DeepEqual(known[:cap(known)], roomySecrets(knownTo(mixed(), 4))[:cap(known)]) {
			t.Errorf("%s changes the secrets that are handed in: %v", c.name, known[:cap(known)])
		}
	}
}

// No two lists of one answer lie in one memory, so that a list may grow without another one's harm.
func TestListsOfAnAnswerShareNoMemory(t *testing.T) {
	g := someGiven(t)
	s := g.s
	m := made(t, s, g.a, 2, g.fresh...)
	x, e := kem.Apply(s, g.a, 4, knownTo(g.a, 4), 2, g.p, g.fresh)
	if e != api.OK {
		t.Fatal(e)
	}
	for _, p := range []kem.Path{m.Path, x.Path} {
		lists := append([][]int{p.Keys}, p.Boxes...)
		for k, list := range lists {
			for n := range list[:cap(list)] {
				list[:cap(list)][n] = 1000 + k
			}
		}
		for k, list := range lists {
			for _, n := range list[:cap(list)] {
				if n != 1000+k {
					t.Errorf("the list %d shares memory: %v", k, lists)
				}
			}
		}
	}
}

// A call that answers an error changes nothing either.
func TestErrorsChangeNothing(t *testing.T) {
	g := someGiven(t)
	s := g.s
	kept := g.everything()
	kem.Make(s, g.a, 1, newLeaf, start, g.fresh)
	kem.Make(s, g.a, 2, 0, start, g.fresh)
	for j := -1; j < 9; j++ {
		kem.Apply(s, g.a, j, g.list, 2, g.p, g.fresh)
		kem.Apply(s, g.a, j, g.list, 3, g.p, g.fresh)
		kem.Apply(s, g.a, j, g.list, 2, g.p, nil)
	}
	if !reflect.DeepEqual(g.everything(), kept) {
		t.Errorf("%v", g.everything())
	}
}

// What was handed in once isn't kept, and the same is answered again, with nothing more made.
func TestAnswersHangOnWhatIsGiven(t *testing.T) {
	s := drawn()
	a := mixed()
	m := made(t, s, a, 2)
	x, _ := kem.Apply(s, a, 3, knownTo(a, 3), 2, m.Path, nil)
	size := s.Len()
	again := made(t, s, a, 2)
	y, _ := kem.Apply(s, a, 3, knownTo(a, 3), 2, again.Path, nil)
	if !sameMade(m, again) || !sameMade(x, y) || s.Len() != size {
		t.Errorf("%v and %v, %d terms more", again, y, s.Len()-size)
	}
	a[12].Key = keyOf(40)
	m, e := kem.Make(s, a, 2, newLeaf, start, nil)
	wantMade(t, "of a changed tree", m, e, modelMake(s, a, 2, newLeaf, start, nil), api.OK)
}
