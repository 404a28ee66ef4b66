package kem_test

import (
	"math/rand"
	"slices"
	"strconv"
	"testing"

	"conclave/api"
	"conclave/kem"
	"conclave/term"
	"conclave/tree"
)

// Every shape and many sizes against the words, and groups that live.

// against asks for all that the members of a tree make and take, as the words say.
func against(t *testing.T, s *term.Store, a []api.Vertex, fresh []int) {
	t.Helper()
	for i := range (len(a) + 1) / 2 {
		m, e := kem.Make(s, a, i, newLeaf, start, fresh)
		if !isFull(a, i) {
			wantNone(t, "Make", m, e, api.ErrLeaf)
			continue
		}
		wantMade(t, "Make", m, e, modelMake(s, a, i, newLeaf, start, fresh), api.OK)
		for j := range (len(a) + 1) / 2 {
			list := knownTo(a, j)
			x, e := kem.Apply(s, a, j, list, i, m.Path, fresh)
			want, wantErr := modelApply(s, a, j, list, i, m.Path, fresh)
			wantMade(t, "Apply", x, e, want, wantErr)
			if isFull(a, j) && j != i && e != api.OK && !slices.Contains(fresh, j) {
				t.Errorf("%d can't apply what %d made: %d", j, i, e)
			}
			wantSecrets(t, "Climb", kem.Climb(s, a, i, j, start), modelClimb(s, a, i, j, start)...)
		}
		wantSecrets(t, "Trim", kem.Trim(a, i, everySecret(a)), modelTrim(a, i, everySecret(a))...)
	}
}

func TestEveryShapeOfFewLeaves(t *testing.T) {
	for _, n := range []int{1, 2, 4} {
		shapes := 1
		for range 2*n - 1 {
			shapes *= 3
		}
		s := drawn()
		for shape := range shapes {
			if a := shaped(n, shape); tree.Check(a) {
				against(t, s, a, nil)
				against(t, s, a, []int{shape % n})
			}
		}
	}
}

// shaped reads a shape's digits in the base 3, one a place: blank; full; full with all below it late (a leaf: with no Hash).
func shaped(n, shape int) []api.Vertex {
	a := full(n)
	for x := range a {
		switch digit := shape % 3; {
		case digit == 0:
			a[x] = blank()
		case digit == 2 && x%2 == 0:
			a[x].Hash = 0
		case digit == 2:
			a[x].Late = []int{-1}
		}
		shape /= 3
	}
	late(a, whole(a))
	return a
}

// late writes into each Late that was marked the members below.
func late(a []api.Vertex, b span) {
	if b.single() {
		return
	}
	if v := &a[b.place()]; len(v.Late) > 0 {
		v.Late = slices.DeleteFunc(tree.Members(a), func(i int) bool { return !b.has(i) })
	}
	left, right := b.halves()
	late(a, left)
	late(a, right)
}

// Whatever is handed in, the answer is what the words say.
func TestSpoiltPaths(t *testing.T) {
	r := rand.New(rand.NewSource(6))
	s := drawn()
	for range 10000 {
		a := someTree(r)
		i, j := r.Intn(10)-1, r.Intn(10)-1
		fresh := someNumbers(r)
		p := kem.Path{}
		if isFull(a, i) {
			p = made(t, s, a, i, fresh...).Path
		}
		for range r.Intn(3) {
			p = spoiltSomehow(t, r, s, a, i, p)
		}
		if r.Intn(9) == 0 {
			fresh = someNumbers(r)
		}
		list := knownTo(a, max(j, 0))
		if len(list) > 0 && r.Intn(4) == 0 {
			list[r.Intn(len(list))].Term = r.Intn(draws)
		}
		if r.Intn(4) == 0 {
			list = slices.DeleteFunc(everySecret(a), func(kem.Secret) bool { return r.Intn(3) == 0 })
		}
		x, e := kem.Apply(s, a, j, list, i, p, fresh)
		want, wantErr := modelApply(s, a, j, list, i, p, fresh)
		wantMade(t, "Apply", x, e, want, wantErr)
	}
}

func someTree(r *rand.Rand) []api.Vertex {
	for {
		a := full([]int{2, 4, 8, 8}[r.Intn(4)])
		for x := range a {
			switch r.Intn(5) {
			case 0:
				a[x] = blank()
			case 1:
				a[x].Late = []int{-1}
			}
			if x%2 == 0 {
				a[x].Late = nil
			}
		}
		late(a, whole(a))
		if tree.Check(a) {
			return a
		}
	}
}

func someNumbers(r *rand.Rand) []int {
	var list []int
	for range r.Intn(3) {
		list = append(list, r.Intn(12)-2)
	}
	return list
}

func spoiltSomehow(t *testing.T, r *rand.Rand, s *term.Store, a []api.Vertex, i int, p kem.Path) kem.Path {
	p = copyOf(p)
	some := r.Intn(s.Len()+2) - 1
	switch r.Intn(6) {
	case 0:
		p.Leaf = some
	case 1:
		p.Hash = some
	case 2, 3:
		if k := len(p.Keys); k > 0 {
			p.Keys[r.Intn(k)] = 1 + r.Intn(draws+50)
			if r.Intn(4) > 0 {
				return rehashed(t, s, a, i, p)
			}
		}
	default:
		if k := len(p.Boxes); k > 0 {
			if list := p.Boxes[r.Intn(k)]; len(list) > 0 {
				list[r.Intn(len(list))] = some
			}
		}
	}
	return p
}

// world is a group of which all members' secrets are kept, by their leaves.
type world struct {
	t       *testing.T
	s       *term.Store
	a       []api.Vertex
	secrets map[int][]kem.Secret
	joined  int
}

func newWorld(t *testing.T) *world {
	w := &world{t: t, s: term.New(), secrets: map[int][]kem.Secret{}}
	leaf, v := w.card()
	w.a = tree.New(v)
	w.secrets[0] = []kem.Secret{{Place: 0, Term: leaf}}
	return w
}

func (w *world) card() (int, api.Vertex) {
	leaf := w.s.Fresh()
	w.joined++
	return leaf, api.Vertex{Key: w.s.Pub(leaf), Client: w.joined, Sig: w.s.Pub(w.s.Fresh())}
}

// add puts somebody into the tree, without a path: it knows its leaf's secret alone.
func (w *world) add() (int, bool) {
	leaf, v := w.card()
	a, i, e := tree.Add(w.a, v)
	if e != api.OK {
		return 0, false
	}
	w.a = a
	w.secrets[i] = []kem.Secret{{Place: 2 * i, Term: leaf}}
	return i, true
}

func (w *world) remove(i int) {
	a, e := tree.Remove(w.a, i)
	if e != api.OK {
		return
	}
	w.a = a
	delete(w.secrets, i)
	w.trim()
}

// update gives a member a new leaf, as its proposal would.
func (w *world) update(i int) {
	leaf, v := w.card()
	a, e := tree.Update(w.a, i, v)
	if e != api.OK {
		w.t.Fatal(e)
	}
	w.a = a
	w.secrets[i] = []kem.Secret{{Place: 2 * i, Term: leaf}}
	w.trim()
}

func (w *world) trim() {
	for _, j := range tree.Members(w.a) {
		w.secrets[j] = kem.Trim(w.a, j, w.secrets[j])
	}
}

// commit is a path of a member: the others apply it, the new ones climb from where they meet it.
func (w *world) commit(i int, fresh []int) {
	w.t.Helper()
	leaf, first := w.s.Fresh(), w.s.Fresh()
	m, e := kem.Make(w.s, w.a, i, leaf, first, fresh)
	wantMade(w.t, "Make", m, e, modelMake(w.s, w.a, i, leaf, first, fresh), api.OK)
	for _, j := range tree.Members(w.a) {
		if j == i {
			w.secrets[j] = m.Secrets
			continue
		}
		if slices.Contains(fresh, j) {
			w.secrets[j] = append(w.secrets[j], kem.Climb(w.s, m.Tree, i, j, w.meeting(i, j, first))...)
			sortByPlace(w.secrets[j])
			continue
		}
		x, e := kem.Apply(w.s, w.a, j, w.secrets[j], i, m.Path, fresh)
		if e != api.OK || x.Commit != m.Commit || !sameTree(x.Tree, m.Tree) || !samePath(x.Path, m.Path) {
			w.t.Fatalf("%d by %d: %v, %d", i, j, x, e)
		}
		w.secrets[j] = x.Secrets
	}
	w.a = m.Tree
}

// meeting is the path secret of the lowest place above both.
func (w *world) meeting(i, j, first int) int {
	k := slices.IndexFunc(stepsOf(w.a, i, nil), func(x step) bool { return x.at.has(j) })
	return nth(w.s, first, k)
}

// hold asks that each member knows just the secrets of its leaf and of the full places above it where it isn't late.
func (w *world) hold() {
	w.t.Helper()
	if !tree.Check(w.a) {
		w.t.Fatalf("no right tree: %v", w.a)
	}
	for _, j := range tree.Members(w.a) {
		var places []int
		for _, x := range knownTo(w.a, j) {
			places = append(places, x.Place)
		}
		var got []int
		for _, x := range w.secrets[j] {
			got = append(got, x.Place)
			if w.s.Pub(x.Term) != w.a[x.Place].Key {
				w.t.Fatalf("%d knows a wrong secret of %d", j, x.Place)
			}
		}
		if !slices.Equal(got, places) {
			w.t.Fatalf("%d knows secrets of %v, not of %v, in %v", j, got, places, w.a)
		}
	}
}

func TestGroupsThatLive(t *testing.T) {
	for seed := range 12 {
		r := rand.New(rand.NewSource(int64(seed)))
		w := newWorld(t)
		for range 60 {
			members := tree.Members(w.a)
			i := members[r.Intn(len(members))]
			var fresh []int
			switch r.Intn(5) {
			case 0, 1:
				for range 1 + r.Intn(3) {
					if k, ok := w.add(); ok {
						fresh = append(fresh, k)
					}
				}
			case 2:
				w.remove(members[r.Intn(len(members))])
			case 3:
				w.update(members[r.Intn(len(members))])
			}
			w.hold()
			if isFull(w.a, i) && r.Intn(4) > 0 {
				w.commit(i, fresh)
				w.hold()
			}
		}
	}
}

// Who was removed can apply nothing that comes behind, by whatever it knew.
func TestWhoWasRemovedIsOut(t *testing.T) {
	for gone := range 8 {
		w := newWorld(t)
		for range 7 {
			w.add()
		}
		for i := range 8 {
			w.commit(i, nil)
		}
		old := w.secrets[gone]
		w.remove(gone)
		for _, i := range tree.Members(w.a) {
			m, e := kem.Make(w.s, w.a, i, w.s.Fresh(), w.s.Fresh(), nil)
			if e != api.OK {
				t.Fatal(e)
			}
			for k, list := range m.Path.Boxes {
				for _, box := range list {
					for _, x := range old {
						if secret, ok := w.s.Unbox(x.Term, box); ok {
							t.Errorf("%d opens a box of %d at %d: %d", gone, i, k, secret)
						}
					}
				}
			}
			for _, j := range tree.Members(w.a) {
				x, e := kem.Apply(w.s, w.a, j, old, i, m.Path, nil)
				if j != i && e != api.ErrKey {
					t.Errorf("%d with the secrets of %d: %v, %d", j, gone, x, e)
				}
			}
		}
	}
}

// A list that is no right tree is left out by the chapter; nothing panics over one all the same.
func TestListsThatAreNoRightTrees(t *testing.T) {
	s := drawn()
	late := full(4)
	late[5].Late = []int{-3, 99, 1 << 62}
	spoiltParent := full(4)
	spoiltParent[3].Client = 5
	for k, a := range [][]api.Vertex{nil, full(4)[:4], full(4)[:2], make([]api.Vertex, 7), make([]api.Vertex, 100), late, spoiltParent} {
		for i := -1; i < 5; i++ {
			m, e := kem.Make(s, a, i, newLeaf, start, nil)
			if k < 5 {
				wantNone(t, "Make", m, e, api.ErrLeaf)
			}
			for j := -1; j < 5; j++ {
				kem.Apply(s, a, j, everySecret(a), i, m.Path, nil)
				kem.Climb(s, a, i, j, start)
			}
			kem.Trim(a, i, everySecret(a))
		}
	}
}

// In a store that is full a call ends, with a whole answer or an error.
func TestFullStores(t *testing.T) {
	a := mixed()
	want := modelMake(drawn(), a, 2, newLeaf, start, nil)
	for _, room := range []int{0, 1, 3, 8, 30} {
		s := drawn()
		for k := 0; s.Len() < api.MaxTerms-room; k++ {
			s.Text("fill " + strconv.Itoa(k))
		}
		m, e := kem.Make(s, a, 2, newLeaf, start, nil)
		if e == api.OK && len(m.Path.Keys) != len(want.Path.Keys) {
			t.Errorf("with room for %d: %v, %d", room, m, e)
		}
		kem.Apply(s, a, 3, knownTo(a, 3), 2, m.Path, nil)
		kem.Climb(s, a, 2, 3, start)
	}
}
