package tree_test

import (
	"slices"
	"testing"

	"conclave/api"
	"conclave/tree"
)

// What is handed in stays as it was, its spare room too, and shares no memory with what is answered.

const mark = -77

// roomy is a copy of a list with spare room behind it, marked throughout.
func roomy(list []int) []int {
	r := make([]int, len(list)+4)
	for k := range r {
		r[k] = mark
	}
	copy(r, list)
	return r[:len(list)]
}

// roomyTree is a copy of a tree with marked spare room behind it and behind each Late, of blank vertices too.
func roomyTree(a []api.Vertex) []api.Vertex {
	r := make([]api.Vertex, len(a)+len(a)+9)
	for x := range r {
		r[x] = api.Vertex{Full: true, Key: mark, Client: mark, Sig: mark, Hash: mark, Late: []int{mark}}
	}
	for x, v := range a {
		r[x] = v
		r[x].Late = roomy(v.Late)
	}
	return r[:len(a)]
}

// whole is a copy of a tree, of its spare room, and of that of each Late.
func whole(a []api.Vertex) []api.Vertex {
	c := slices.Clone(a[:cap(a)])
	for x, v := range c {
		c[x].Late = slices.Clone(v.Late[:cap(v.Late)])
	}
	return c
}

func scribbleList(list []int, with int) {
	list = list[:cap(list)]
	for k := range list {
		list[k] = with
	}
}

// scribble writes over all that an answer has, first what its lists point to.
func scribble(a []api.Vertex) {
	a = a[:cap(a)]
	for _, v := range a {
		scribbleList(v.Late, -55)
	}
	for x := range a {
		a[x] = api.Vertex{Key: -55, Late: []int{-55}}
	}
}

// unshared asks that no two Lates of an answer lie in one memory.
func unshared(t *testing.T, what string, a []api.Vertex) {
	t.Helper()
	for x := range a {
		scribbleList(a[x].Late, x)
	}
	for x := range a {
		for _, at := range a[x].Late[:cap(a[x].Late)] {
			if at != x {
				t.Errorf("%s: the Lates of %d and %d share memory", what, x, at)
				return
			}
		}
	}
}

// lateTree has Lates at places on the paths of the calls below and beside them, blank leaves, and a right half that empties with the leaf 6.
func lateTree() []api.Vertex {
	a := full(8)
	a[4], a[8], a[10], a[14] = blank(), blank(), blank(), blank()
	a[1].Late, a[3].Late, a[7].Late, a[11].Late = []int{0, 1}, []int{0, 3}, []int{1, 3, 6}, []int{6}
	return a
}

func TestCallsShareNoMemory(t *testing.T) {
	keys, hashes := roomy([]int{71, 72, 73}), roomy([]int{81, 82, 83})
	leaf := leafOf(9)
	leaf.Late = roomy([]int{1, 2})
	for _, c := range []struct {
		name string
		call func(a []api.Vertex) []api.Vertex
	}{
		{"New", func([]api.Vertex) []api.Vertex { return tree.New(leaf) }},
		{"Add", func(a []api.Vertex) []api.Vertex { b, _, _ := tree.Add(a, leaf); return b }},
		{"Update", func(a []api.Vertex) []api.Vertex { b, _ := tree.Update(a, 6, leaf); return b }},
		{"Remove", func(a []api.Vertex) []api.Vertex { b, _ := tree.Remove(a, 0); return b }},
		{"halve", func(a []api.Vertex) []api.Vertex { b, _ := tree.Remove(a, 6); return b }},
		{"Merge", func(a []api.Vertex) []api.Vertex { b, _ := tree.Merge(a, 0, leaf, keys, hashes); return b }},
	} {
		a := roomyTree(lateTree())
		kept := whole(a)
		b := c.call(a)
		if len(b) == 0 {
			t.Fatalf("%s: no tree", c.name)
		}
		again := c.call(a)
		keptAgain := whole(again)
		unshared(t, c.name, b)
		scribble(b)
		wantTree(t, c.name+" changes what is handed in", whole(a), kept)
		wantTree(t, c.name+" answers memory that it answered before", whole(again), keptAgain)
		wantList(t, c.name+", the leaf's Late", leaf.Late[:cap(leaf.Late)], 1, 2, mark, mark, mark, mark)
		wantList(t, c.name+", the keys", keys[:cap(keys)], 71, 72, 73, mark, mark, mark, mark)
		wantList(t, c.name+", the hashes", hashes[:cap(hashes)], 81, 82, 83, mark, mark, mark, mark)
	}
}

func TestDoublingSharesNoMemory(t *testing.T) {
	small := full(4)
	small[3].Late = []int{1, 2}
	a := roomyTree(small)
	kept := whole(a)
	b := added(t, a, leafOf(4), 4)
	wantTree(t, "doubled", b[:7], small)
	unshared(t, "doubled", b)
	scribble(b)
	wantTree(t, "what is handed in", whole(a), kept)
}

func TestListsShareNoMemory(t *testing.T) {
	a := roomyTree(lateTree())
	kept := whole(a)
	path, copath := tree.Filtered(a, 0)
	scribbleList(path, -1)
	scribbleList(copath, -2)
	if slices.Contains(path, -2) {
		t.Error("a filtered path and its copath share memory")
	}
	scribbleList(tree.Members(a), -3)
	for x := range a {
		scribbleList(tree.Resolution(a, x), -4)
	}
	wantTree(t, "what is handed in", whole(a), kept)
	wantList(t, "Members again", tree.Members(a), 0, 1, 3, 6)
	wantList(t, "Resolution again", tree.Resolution(a, 7), 7, 2, 6, 12)
	wantFiltered(t, a, 0, []int{1, 3, 7}, []int{2, 5, 11})
}

// A call that answers an error changes nothing either.
func TestErrorsChangeNothing(t *testing.T) {
	a := roomyTree(lateTree())
	kept := whole(a)
	tree.Update(a, 2, leafOf(1))
	tree.Remove(a, 2)
	tree.Merge(a, 2, leafOf(1), nil, nil)
	tree.Merge(a, 0, leafOf(1), []int{1}, []int{1})
	wantTree(t, "what is handed in", whole(a), kept)
	most := roomyTree(full(api.MaxLeaves))
	kept = whole(most)
	tree.Add(most, leafOf(1))
	wantTree(t, "what is handed in", whole(most), kept)
}
