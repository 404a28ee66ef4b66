package digest_test

import (
	"reflect"
	"slices"
	"strconv"
	"testing"

	"conclave/api"
	"conclave/digest"
	"conclave/term"
)

const mark = -77

// roomy is a copy of a list with spare room behind it, marked throughout.
func roomy(list []int) []int {
	r := slices.Repeat([]int{mark}, len(list)+4)
	copy(r, list)
	return r[:len(list)]
}

func roomyTree(a []api.Vertex) []api.Vertex {
	r := make([]api.Vertex, len(a)+9)
	for x := range r {
		r[x] = api.Vertex{Full: true, Key: mark, Client: mark, Sig: mark, Hash: mark, Late: []int{mark}}
	}
	for x, v := range a {
		r[x] = v
		r[x].Late = roomy(v.Late)
	}
	return r[:len(a)]
}

// everything is a copy of a tree, of its spare room, and of that of each Late.
func everything(a []api.Vertex) []api.Vertex {
	c := slices.Clone(a[:cap(a)])
	for x, v := range c {
		c[x].Late = slices.Clone(v.Late[:cap(v.Late)])
	}
	return c
}

func TestWhatIsHandedInStays(t *testing.T) {
	s := drawn()
	a, keys := roomyTree(mixed()), roomy([]int{31, 32, 33})
	kept := everything(a)
	for x := -1; x <= len(a); x++ {
		digest.Hash(s, a, x)
	}
	digest.Tree(s, a)
	for i := -1; i <= 8; i++ {
		digest.Parents(s, a, i, keys)
		digest.Parents(s, a, i, keys[:2])
	}
	digest.Parents(s, a, 2, roomy([]int{31, 0, 33}))
	if !reflect.DeepEqual(everything(a), kept) {
		t.Errorf("the tree: %v", everything(a))
	}
	if !slices.Equal(keys[:cap(keys)], []int{31, 32, 33, mark, mark, mark, mark}) {
		t.Errorf("the keys: %v", keys[:cap(keys)])
	}
}

func TestParentsAreNewMemory(t *testing.T) {
	s := drawn()
	a, keys := mixed(), []int{31, 32, 33}
	one, _ := digest.Parents(s, a, 2, keys)
	other, leaf := digest.Parents(s, a, 2, keys)
	want := slices.Clone(other)
	for k := range one[:cap(one)] {
		one[:cap(one)][k] = mark
	}
	again, own := digest.Parents(s, a, 2, keys)
	if !slices.Equal(other, want) || !slices.Equal(again, want) || own != leaf || !slices.Equal(keys, []int{31, 32, 33}) {
		t.Errorf("%v, %v and %d, not %v and %d; keys %v", other, again, own, want, leaf, keys)
	}
}

// What was handed in once isn't kept: a tree that has been changed since has another hash.
func TestNothingIsKept(t *testing.T) {
	s := drawn()
	a := mixed()
	before := digest.Tree(s, a)
	a[4].Key = 200
	wantTerm(t, "the changed tree", s, digest.Tree(s, a), modelHash(s, a, whole(a)))
	a[4].Key = leafOf(2).Key
	if got := digest.Tree(s, a); got != before {
		t.Errorf("%d, not %d", got, before)
	}
	again := drawn()
	wantTerm(t, "in another store", again, digest.Tree(again, a), modelHash(again, a, whole(a)))
}

// Asked for again, nothing more is made.
func TestHashesAreMadeOnce(t *testing.T) {
	s := drawn()
	tree := digest.Tree(s, mixed())
	_, leaf := digest.Parents(s, mixed(), 2, []int{31, 32, 33})
	size := s.Len()
	if digest.Tree(s, mixed()) != tree || s.Len() != size {
		t.Error("the tree hash is made anew")
	}
	if _, own := digest.Parents(s, mixed(), 2, []int{31, 32, 33}); own != leaf || s.Len() != size {
		t.Error("the parent hashes are made anew")
	}
}

// Where there is no room for a term the answer is whole or nothing.
func TestFullStores(t *testing.T) {
	for _, room := range []int{1, 9, 30} {
		s := filled(room)
		if got := digest.Tree(s, mixed()); got != 0 {
			wantTerm(t, "Tree", s, got, modelHash(s, mixed(), span{0, 8}))
		}
		s = filled(room)
		hashes, leaf := digest.Parents(s, mixed(), 2, []int{31, 32, 33})
		if leaf != 0 || len(hashes) != 0 {
			want, own := modelParents(s, mixed(), 2, []int{31, 32, 33})
			wantParents(t, s, mixed(), 2, []int{31, 32, 33}, want, own)
		}
	}
	s := filled(0)
	wantZero(t, "Number", digest.Number(s, 5))
	wantZero(t, "Tree", digest.Tree(s, mixed()))
	wantNoParents(t, "a full store", s, mixed(), 2, []int{31, 32, 33})
	wantNoParents(t, "a full store", s, full(1), 0, nil)
}

// filled is a store with room for so many terms more.
func filled(room int) *term.Store {
	s := drawn()
	for i := 0; s.Len() < api.MaxTerms-room; i++ {
		s.Text("fill " + strconv.Itoa(i))
	}
	return s
}
