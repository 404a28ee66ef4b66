package tree_test

import (
	"math"
	"math/rand"
	"slices"
	"testing"

	"conclave/api"
	"conclave/tree"
)

// leafOf is a leaf with each part its own.
func leafOf(k int) api.Vertex {
	return api.Vertex{Full: true, Key: 1000 + k, Client: 2000 + k, Sig: 3000 + k, Hash: 4000 + k}
}

func parentOf(k int, late ...int) api.Vertex {
	return api.Vertex{Full: true, Key: 5000 + k, Hash: 6000 + k, Late: late}
}

// odd is a leaf as somebody may hand it in, with a Full and a Late that are none of its business.
func odd(k int) api.Vertex {
	v := leafOf(k)
	v.Full, v.Late = false, []int{3, 1}
	return v
}

func blank() api.Vertex { return api.Vertex{} }

// four is a tree of four full leaves and blank parents.
func four() []api.Vertex {
	return []api.Vertex{leafOf(0), blank(), leafOf(1), blank(), leafOf(2), blank(), leafOf(3)}
}

// full is a tree of n full leaves, its parents full too.
func full(n int) []api.Vertex {
	t := make([]api.Vertex, 2*n-1)
	for x := range t {
		if x%2 == 0 {
			t[x] = leafOf(x / 2)
		} else {
			t[x] = parentOf(x)
		}
	}
	return t
}

// noLeaves are no numbers of leaves of a tree of n; the double of some wraps round to a place.
func noLeaves(n int) []int {
	return []int{-1, -2, -n, math.MinInt, math.MinInt + 1, n, n + 1, 2 * n, 32, 1 << 40, math.MaxInt, math.MaxInt/2 + 1}
}

func wantTree(t *testing.T, what string, got, want []api.Vertex) {
	t.Helper()
	if !sameTree(got, want) {
		t.Errorf("%s:\n got %v\nwant %v", what, got, want)
	}
}

func wantList(t *testing.T, what string, got []int, want ...int) {
	t.Helper()
	if !slices.Equal(got, want) {
		t.Errorf("%s: %v, not %v", what, got, want)
	}
}

// wantNone asks for an error with no tree beside it.
func wantNone(t *testing.T, what string, got []api.Vertex, e, want api.Errno) {
	t.Helper()
	if len(got) != 0 || e != want {
		t.Errorf("%s: %v, %d, not none and %d", what, got, e, want)
	}
}

func added(t *testing.T, a []api.Vertex, leaf api.Vertex, want int) []api.Vertex {
	t.Helper()
	b, i, e := tree.Add(a, leaf)
	if i != want || e != api.OK {
		t.Fatalf("Add: %d, %d, not %d", i, e, want)
	}
	return b
}

func removed(t *testing.T, a []api.Vertex, i int) []api.Vertex {
	t.Helper()
	b, e := tree.Remove(a, i)
	if e != api.OK {
		t.Fatalf("Remove(%d): %d", i, e)
	}
	return b
}

func merged(t *testing.T, a []api.Vertex, i int, leaf api.Vertex, keys, hashes []int) []api.Vertex {
	t.Helper()
	b, e := tree.Merge(a, i, leaf, keys, hashes)
	if e != api.OK {
		t.Fatalf("Merge(%d): %d", i, e)
	}
	return b
}

// P4.1

func TestCheckOfRightTrees(t *testing.T) {
	halfBlank := four()
	halfBlank[0], halfBlank[2], halfBlank[4] = blank(), blank(), blank()
	wild := four()
	wild[0] = api.Vertex{Full: true, Key: -1, Client: math.MinInt, Sig: math.MaxInt, Hash: -5}
	wild[1] = api.Vertex{Full: true, Key: math.MinInt, Hash: -1}
	allLate := four()
	allLate[3] = parentOf(3, 0, 1, 2, 3)
	emptyLate := four()
	emptyLate[0].Late, emptyLate[1].Late = []int{}, []int{}
	dead := four()
	dead[0], dead[2], dead[1] = blank(), blank(), parentOf(1)
	for _, c := range []struct {
		name string
		tree []api.Vertex
	}{
		{"of one leaf", []api.Vertex{leafOf(0)}}, {"of one leaf of zeros", []api.Vertex{{Full: true}}},
		{"of two, the right one full", []api.Vertex{blank(), blank(), leafOf(1)}},
		{"of four", four()}, {"the last leaf alone", halfBlank}, {"any numbers", wild},
		{"all late", allLate}, {"Late empty, not nil", emptyLate}, {"a full parent above blank leaves", dead},
		{"all full", full(4)}, {"of most", full(api.MaxLeaves)},
	} {
		if !tree.Check(c.tree) {
			t.Errorf("%s: not right: %v", c.name, c.tree)
		}
	}
}

func TestCheckOfWrongLengths(t *testing.T) {
	a := full(64)
	for length := range len(a) + 1 {
		want := slices.Contains([]int{1, 3, 7, 15, 31, 63}, length)
		if tree.Check(a[:length]) != want {
			t.Errorf("of %d places: not %v", length, want)
		}
	}
	if tree.Check(nil) || tree.Check([]api.Vertex{}) {
		t.Error("no tree is right")
	}
}

// TestCheckOfOneFault changes a right tree of eight leaves in one thing.
func TestCheckOfOneFault(t *testing.T) {
	base := full(8)
	base[2], base[9], base[12] = blank(), blank(), blank() // the leaves 1 and 6, and a parent
	base[7].Late = []int{0, 3, 7}
	base[11].Late = []int{4, 5}
	if !tree.Check(base) {
		t.Fatal("the tree to change isn't right")
	}
	for _, c := range []struct {
		name  string
		spoil func(a []api.Vertex)
	}{
		{"a blank leaf with a Key", func(a []api.Vertex) { a[2].Key = 1 }},
		{"a blank leaf with a Client", func(a []api.Vertex) { a[2].Client = 1 }},
		{"a blank leaf with a Sig", func(a []api.Vertex) { a[2].Sig = -1 }},
		{"a blank leaf with a Hash", func(a []api.Vertex) { a[2].Hash = 1 }},
		{"a blank leaf with a Late", func(a []api.Vertex) { a[2].Late = []int{0} }},
		{"a blank parent with a Key", func(a []api.Vertex) { a[9].Key = -1 }},
		{"a blank parent with a Client", func(a []api.Vertex) { a[9].Client = 1 }},
		{"a blank parent with a Sig", func(a []api.Vertex) { a[9].Sig = 1 }},
		{"a blank parent with a Hash", func(a []api.Vertex) { a[9].Hash = 1 }},
		{"a blank parent with a right Late", func(a []api.Vertex) { a[9].Late = []int{4} }},
		{"a full leaf with itself late", func(a []api.Vertex) { a[0].Late = []int{0} }},
		{"the last leaf with a Late", func(a []api.Vertex) { a[14].Late = []int{7} }},
		{"a full parent with a Client", func(a []api.Vertex) { a[5].Client = 1 }},
		{"a full parent with a Sig", func(a []api.Vertex) { a[13].Sig = -1 }},
		{"the root with a Client", func(a []api.Vertex) { a[7].Client = -1 }},
		{"a Late that falls", func(a []api.Vertex) { a[7].Late = []int{3, 0} }},
		{"a Late that falls at its end", func(a []api.Vertex) { a[7].Late = []int{0, 7, 3} }},
		{"a Late with one twice", func(a []api.Vertex) { a[7].Late = []int{0, 3, 3} }},
		{"a Late with 0 twice", func(a []api.Vertex) { a[7].Late = []int{0, 0} }},
		{"a Late of a blank leaf", func(a []api.Vertex) { a[7].Late = []int{1} }},
		{"a Late of a blank leaf last", func(a []api.Vertex) { a[7].Late = []int{0, 6} }},
		{"a Late of a leaf elsewhere", func(a []api.Vertex) { a[11].Late = []int{3} }},
		{"a Late of a leaf beside", func(a []api.Vertex) { a[1].Late = []int{2} }},
		{"a Late below 0", func(a []api.Vertex) { a[7].Late = []int{-1} }},
		{"a Late below 0 ahead of others", func(a []api.Vertex) { a[7].Late = []int{-4, 0} }},
		{"a Late behind the last", func(a []api.Vertex) { a[7].Late = []int{8} }},
		{"a Late by its place", func(a []api.Vertex) { a[7].Late = []int{0, 14} }},
		{"a Late that wraps round", func(a []api.Vertex) { a[7].Late = []int{math.MinInt} }},
		{"a Late that wraps round, too", func(a []api.Vertex) { a[7].Late = []int{math.MaxInt/2 + 1} }},
		{"a late leaf that becomes blank", func(a []api.Vertex) { a[10] = blank() }},
		{"an empty right half", func(a []api.Vertex) {
			a[7].Late, a[11].Late = nil, nil
			a[8], a[10], a[14] = blank(), blank(), blank()
		}},
		{"no full leaf", func(a []api.Vertex) {
			a[7].Late, a[11].Late = nil, nil
			for x := 0; x < len(a); x += 2 {
				a[x] = blank()
			}
		}},
	} {
		a := deepCopy(base)
		c.spoil(a)
		if tree.Check(a) {
			t.Errorf("%s: right", c.name)
		}
	}
	if tree.Check([]api.Vertex{blank()}) || tree.Check([]api.Vertex{leafOf(0), blank(), blank()}) {
		t.Error("small trees without a full leaf where one must be are right")
	}
}

func TestNew(t *testing.T) {
	wantTree(t, "New", tree.New(odd(5)), []api.Vertex{leafOf(5)})
	wantTree(t, "New of a full leaf", tree.New(leafOf(5)), []api.Vertex{leafOf(5)})
	wantTree(t, "New of nothing", tree.New(blank()), []api.Vertex{{Full: true}})
}

func TestLeavesMembersFind(t *testing.T) {
	for _, n := range []int{1, 2, 4, 8, 16, 32} {
		a := full(n)
		if tree.Leaves(a) != n || len(tree.Members(a)) != n {
			t.Errorf("of %d: %d leaves, members %v", n, tree.Leaves(a), tree.Members(a))
		}
		if i, ok := tree.Find(a, 2000+n-1); i != n-1 || !ok {
			t.Errorf("Find of the last of %d: %d, %v", n, i, ok)
		}
	}
	a := full(8)
	a[0], a[6], a[14] = blank(), blank(), blank()
	a[4].Client, a[10].Client, a[12].Client = 7, 7, -7
	wantList(t, "Members", tree.Members(a), 1, 2, 4, 5, 6)
	for _, c := range []struct{ client, want int }{{2001, 1}, {7, 2}, {-7, 6}, {2004, 4}} {
		if i, ok := tree.Find(a, c.client); i != c.want || !ok {
			t.Errorf("Find(%d): %d, %v, not %d", c.client, i, ok, c.want)
		}
	}
	// 0 is the Client of what is blank and of the parents, and nobody's here.
	for _, client := range []int{0, -1, 2000, 2007, 1001, math.MaxInt, math.MinInt} {
		if i, ok := tree.Find(a, client); i != 0 || ok {
			t.Errorf("Find(%d): %d, %v", client, i, ok)
		}
	}
	a[8].Client = 0
	if i, ok := tree.Find(a, 0); i != 4 || !ok {
		t.Errorf("Find(0): %d, %v", i, ok)
	}
}

// P4.2

func TestResolution(t *testing.T) {
	a := full(8)
	a[1], a[2], a[3], a[7] = blank(), blank(), blank(), blank()
	a[5].Late = []int{3}
	a[9], a[8], a[10] = blank(), blank(), blank()
	a[11] = parentOf(11, 6, 7)
	for _, c := range []struct {
		x    int
		want []int
	}{
		{0, []int{0}}, {1, []int{0}}, {2, nil}, {3, []int{0, 5, 6}}, {4, []int{4}}, {5, []int{5, 6}}, {7, []int{0, 5, 6, 11, 12, 14}},
		{8, nil}, {9, nil}, {10, nil}, {11, []int{11, 12, 14}}, {13, []int{13}}, {14, []int{14}},
		{-1, nil}, {-2, nil}, {15, nil}, {16, nil}, {63, nil}, {math.MaxInt, nil}, {math.MinInt, nil},
	} {
		wantList(t, "Resolution", tree.Resolution(a, c.x), c.want...)
	}
	a[11] = blank()
	wantList(t, "a blank parent above a blank one and a full one", tree.Resolution(a, 11), 13)
	wantList(t, "one leaf", tree.Resolution(tree.New(leafOf(0)), 0), 0)
	wantList(t, "no place of one leaf", tree.Resolution(tree.New(leafOf(0)), 1))
}

func wantFiltered(t *testing.T, a []api.Vertex, i int, path, copath []int) {
	t.Helper()
	p, c := tree.Filtered(a, i)
	if !slices.Equal(p, path) || !slices.Equal(c, copath) {
		t.Errorf("Filtered(%d): %v and %v, not %v and %v", i, p, c, path, copath)
	}
}

func TestFiltered(t *testing.T) {
	a := full(8)
	for x := 1; x < len(a); x += 2 {
		a[x] = blank()
	}
	wantFiltered(t, a, 0, []int{1, 3, 7}, []int{2, 5, 11})
	wantFiltered(t, a, 7, []int{13, 11, 7}, []int{12, 9, 3})
	a[2], a[8], a[10] = blank(), blank(), blank()
	wantFiltered(t, a, 0, []int{3, 7}, []int{5, 11})
	wantFiltered(t, a, 7, []int{13, 7}, []int{12, 3})
	wantFiltered(t, a, 1, []int{1, 3, 7}, []int{0, 5, 11}) // a blank leaf has a number, too
	wantFiltered(t, a, 4, []int{11, 7}, []int{13, 3})
	a[9] = parentOf(9)
	wantFiltered(t, a, 6, []int{13, 11, 7}, []int{14, 9, 3}) // a full parent, though all below it is blank
	for _, i := range noLeaves(8) {
		wantFiltered(t, a, i, nil, nil)
	}
}

func TestFilteredThatIsEmpty(t *testing.T) {
	wantFiltered(t, tree.New(leafOf(0)), 0, nil, nil)
	wantFiltered(t, []api.Vertex{blank(), blank(), leafOf(1)}, 1, nil, nil)
	wantFiltered(t, []api.Vertex{blank(), blank(), leafOf(1)}, 0, []int{1}, []int{2})
	alone := make([]api.Vertex, 63)
	alone[62] = leafOf(31)
	wantFiltered(t, alone, 31, nil, nil)
	wantFiltered(t, alone, 0, []int{31}, []int{47})
}

// P4.3

func TestAddDoubles(t *testing.T) {
	a := added(t, tree.New(leafOf(0)), odd(1), 1)
	wantTree(t, "two", a, []api.Vertex{leafOf(0), blank(), leafOf(1)})
	a[1] = parentOf(1, 0)
	b := added(t, a, odd(2), 2)
	wantTree(t, "three", b, []api.Vertex{leafOf(0), parentOf(1, 0), leafOf(1), blank(), leafOf(2), blank(), blank()})
	c := added(t, added(t, b, odd(3), 3), odd(4), 4)
	want := make([]api.Vertex, 15)
	copy(want, b)
	want[6], want[8] = leafOf(3), leafOf(4)
	wantTree(t, "five", c, want)
}

func TestAddAtTheLeastBlank(t *testing.T) {
	a := full(8)
	a[6], a[10], a[5] = blank(), blank(), blank()
	a[7].Late = []int{0, 4}
	b := added(t, a, odd(33), 3)
	want := deepCopy(a)
	want[6], want[3].Late, want[7].Late = leafOf(33), []int{3}, []int{0, 3, 4}
	wantTree(t, "the leaf 3", b, want)
	c := added(t, b, odd(55), 5)
	want[10], want[9].Late, want[11].Late, want[7].Late = leafOf(55), []int{5}, []int{5}, []int{0, 3, 4, 5}
	wantTree(t, "the leaf 5", c, want)
	a[0], a[7].Late = blank(), []int{4}
	d := added(t, a, odd(44), 0)
	wantList(t, "Late ahead of others", d[7].Late, 0, 4)
	if !tree.Check(b) || !tree.Check(c) || !tree.Check(d) {
		t.Error("an answer isn't right")
	}
}

func TestAddUpToMostLeaves(t *testing.T) {
	a := tree.New(leafOf(0))
	sizes := []int{1, 2, 4, 4, 8, 8, 8, 8, 16}
	for i := 1; i < api.MaxLeaves; i++ {
		a = added(t, a, odd(i), i)
		if i < len(sizes) && tree.Leaves(a) != sizes[i] || !tree.Check(a) {
			t.Errorf("behind %d: %v", i, a)
		}
	}
	want := full(api.MaxLeaves)
	for x := 1; x < len(want); x += 2 {
		want[x] = blank()
	}
	wantTree(t, "of most", a, want)
	b, i, e := tree.Add(a, leafOf(99))
	wantNone(t, "Add to most", b, e, api.ErrRoom)
	if i != 0 {
		t.Errorf("ErrRoom with %d", i)
	}
	wantTree(t, "full again", added(t, removed(t, a, 17), leafOf(17), 17), want)
}

// P4.4

func TestUpdate(t *testing.T) {
	a := full(8)
	a[7].Late, a[11].Late, a[3].Late = []int{2, 5}, []int{5}, []int{2}
	b, e := tree.Update(a, 5, odd(50))
	want := deepCopy(a)
	want[10], want[9], want[11], want[7] = leafOf(50), blank(), blank(), blank()
	wantTree(t, "Update", b, want)
	if e != api.OK || !tree.Check(b) {
		t.Errorf("Update: %d, right: %v", e, tree.Check(b))
	}
	one, e := tree.Update(tree.New(leafOf(0)), 0, odd(1))
	wantTree(t, "Update of one leaf", one, []api.Vertex{leafOf(1)})
	if e != api.OK {
		t.Error(e)
	}
}

func TestRemove(t *testing.T) {
	a := full(8)
	a[7].Late, a[11].Late, a[3].Late = []int{2, 5}, []int{5}, []int{2}
	b := removed(t, a, 5)
	want := deepCopy(a)
	want[10], want[9], want[11], want[7] = blank(), blank(), blank(), blank()
	wantTree(t, "Remove", b, want)
	if !tree.Check(b) {
		t.Error("the answer isn't right")
	}
	// The left half may empty, the tree stays as great.
	for _, i := range []int{0, 1, 2, 3} {
		b = removed(t, b, i)
	}
	if tree.Leaves(b) != 8 || !slices.Equal(tree.Members(b), []int{4, 6, 7}) {
		t.Errorf("%v", b)
	}
}

func TestRemoveLeavesTheLeftHalf(t *testing.T) {
	a := full(4)
	a[1].Late = []int{0}
	b := removed(t, a, 2)
	wantTree(t, "the right half has one still", b, []api.Vertex{leafOf(0), parentOf(1, 0), leafOf(1), blank(), blank(), blank(), leafOf(3)})
	wantTree(t, "once", removed(t, b, 3), []api.Vertex{leafOf(0), parentOf(1, 0), leafOf(1)})

	wide := make([]api.Vertex, 63)
	wide[0], wide[1], wide[3], wide[62], wide[47] = leafOf(0), parentOf(1), parentOf(3, 0), leafOf(31), parentOf(47)
	wantTree(t, "as often as it can be", removed(t, wide, 31), []api.Vertex{leafOf(0)})

	wide[10], wide[11] = leafOf(5), parentOf(11, 5)
	want := make([]api.Vertex, 15)
	copy(want, wide)
	wantTree(t, "twice", removed(t, wide, 31), want)
	wantTree(t, "two to one", removed(t, []api.Vertex{leafOf(0), parentOf(1), leafOf(1)}, 1), []api.Vertex{leafOf(0)})
	wantTree(t, "the left one of two", removed(t, []api.Vertex{leafOf(0), parentOf(1), leafOf(1)}, 0), []api.Vertex{blank(), blank(), leafOf(1)})
}

func TestRemoveOfTheOnlyLeaf(t *testing.T) {
	alone := make([]api.Vertex, 15)
	alone[14] = leafOf(7)
	for _, c := range []struct {
		i    int
		tree []api.Vertex
	}{{0, tree.New(leafOf(0))}, {1, []api.Vertex{blank(), blank(), leafOf(1)}}, {7, alone}} {
		b, e := tree.Remove(c.tree, c.i)
		wantNone(t, "the only leaf", b, e, api.ErrLeaf)
	}
}

// P4.4, P4.5

func TestNoFullLeafIsErrLeaf(t *testing.T) {
	for _, n := range []int{1, 2, 8, 32} {
		a := full(n)
		wrong := noLeaves(n)
		if n > 1 {
			a[0] = blank()
			wrong = append(wrong, 0)
		}
		for _, i := range wrong {
			b, e := tree.Update(a, i, leafOf(0))
			wantNone(t, "Update", b, e, api.ErrLeaf)
			b, e = tree.Remove(a, i)
			wantNone(t, "Remove", b, e, api.ErrLeaf)
			b, e = tree.Merge(a, i, leafOf(0), nil, nil)
			wantNone(t, "Merge", b, e, api.ErrLeaf)
			b, e = tree.Merge(a, i, leafOf(0), make([]int, 70), make([]int, 70))
			wantNone(t, "Merge with too many keys, too", b, e, api.ErrLeaf)
		}
	}
}

// P4.5

func TestMerge(t *testing.T) {
	a := full(8)
	a[7].Late, a[11].Late, a[3].Late = []int{2, 5}, []int{5}, []int{2}
	b := merged(t, a, 5, odd(50), []int{71, 72, 73}, []int{81, 82, 83})
	want := deepCopy(a)
	want[10] = leafOf(50)
	want[9] = api.Vertex{Full: true, Key: 71, Hash: 81}
	want[11] = api.Vertex{Full: true, Key: 72, Hash: 82}
	want[7] = api.Vertex{Full: true, Key: 73, Hash: 83}
	wantTree(t, "Merge", b, want)
	if !tree.Check(b) {
		t.Error("the answer isn't right")
	}
}

func TestMergeBlanksWhatIsntFiltered(t *testing.T) {
	a := full(8)
	a[8], a[12], a[14], a[13] = blank(), blank(), blank(), blank()
	wantFiltered(t, a, 5, []int{7}, []int{3})
	b := merged(t, a, 5, odd(50), []int{-1}, []int{0})
	want := deepCopy(a)
	want[10], want[9], want[11], want[7] = leafOf(50), blank(), blank(), api.Vertex{Full: true, Key: -1}
	wantTree(t, "Merge", b, want)

	alone := []api.Vertex{blank(), parentOf(1), leafOf(1)}
	wantTree(t, "an empty filtered path", merged(t, alone, 1, odd(9), nil, []int{}), []api.Vertex{blank(), blank(), leafOf(9)})
	wantTree(t, "one leaf", merged(t, tree.New(leafOf(0)), 0, odd(9), nil, nil), []api.Vertex{leafOf(9)})
}

func TestMergeOfWrongNumbers(t *testing.T) {
	a := full(8)
	a[8] = blank()
	for _, i := range tree.Members(a) {
		path, _ := tree.Filtered(a, i)
		m := len(path)
		for keys := range m + 3 {
			for hashes := range m + 3 {
				if keys == m && hashes == m {
					continue
				}
				b, e := tree.Merge(a, i, leafOf(0), make([]int, keys), make([]int, hashes))
				wantNone(t, "Merge", b, e, api.ErrIndex)
			}
		}
	}
	b, e := tree.Merge(tree.New(leafOf(0)), 0, leafOf(0), []int{1}, []int{1})
	wantNone(t, "Merge of one leaf", b, e, api.ErrIndex)
}

// P4.1 to P4.5: the chapter's example, written out.

func TestExample(t *testing.T) {
	a := added(t, tree.New(leafOf(0)), leafOf(1), 1)
	wantTree(t, "a, blank, b", a, []api.Vertex{leafOf(0), blank(), leafOf(1)})
	a = merged(t, a, 0, leafOf(10), []int{7}, []int{0})
	wantTree(t, "the parent full", a, []api.Vertex{leafOf(10), {Full: true, Key: 7}, leafOf(1)})
	a = added(t, a, leafOf(2), 2)
	wantTree(t, "c at the place 4", a, []api.Vertex{leafOf(10), {Full: true, Key: 7}, leafOf(1), blank(), leafOf(2), blank(), blank()})
	a = added(t, a, leafOf(3), 3)
	wantFiltered(t, a, 3, []int{5, 3}, []int{4, 1})
	a = merged(t, a, 3, leafOf(13), []int{8, 9}, []int{0, 0})
	wantList(t, "Resolution", tree.Resolution(a, 3), 3)
	a = removed(t, a, 1)
	if a[1].Full || a[3].Full || !a[5].Full {
		t.Errorf("%v", a)
	}
	wantList(t, "Resolution", tree.Resolution(a, 3), 0, 5)
	a = added(t, a, leafOf(4), 1)
	wantTree(t, "5 isn't above it", a[5:6], []api.Vertex{{Full: true, Key: 8}})
	a = removed(t, removed(t, a, 2), 3)
	wantTree(t, "the left half", a, []api.Vertex{leafOf(10), blank(), leafOf(4)})
}

// P4.1 to P4.5: every right tree of up to four leaves, and many a greater one, held against the chapter's words.

// smallTrees are all lists of 2n - 1 vertices with each leaf full or blank, each parent blank or full with any full leaves below it late: the right trees, and those that are wrong by the leaves that are full alone.
func smallTrees(n int, each func(a []api.Vertex)) {
	all := spans(n)
	var lay func(a []api.Vertex, x int)
	lay = func(a []api.Vertex, x int) {
		if x >= len(a) && x%2 == 0 {
			lay(a, 1)
			return
		}
		if x >= len(a) {
			each(deepCopy(a))
			return
		}
		a[x] = blank()
		lay(a, x+2)
		if x%2 == 0 {
			a[x] = leafOf(x / 2)
			a[x].Client = x / 2 % 3
			lay(a, x+2)
			return
		}
		for set := range 1 << n {
			if late, ok := lateOf(a, all[x], set); ok {
				a[x] = parentOf(x, late...)
				lay(a, x+2)
			}
		}
		a[x] = blank()
	}
	lay(make([]api.Vertex, 2*n-1), 0)
}

// lateOf are the leaves of a set, by its bits, if all are full and in the span.
func lateOf(a []api.Vertex, s span, set int) ([]int, bool) {
	var late []int
	for i := range sizeOf(a) {
		if set>>i&1 == 0 {
			continue
		}
		if !s.has(i) || !a[2*i].Full {
			return nil, false
		}
		late = append(late, i)
	}
	return late, true
}

func TestEverySmallTree(t *testing.T) {
	right := 0
	for _, n := range []int{1, 2, 4} {
		smallTrees(n, func(a []api.Vertex) {
			if tree.Check(a) != modelCheck(a) {
				t.Fatalf("Check(%v): not %v", a, modelCheck(a))
			}
			if modelCheck(a) {
				right++
				comparesAll(t, a)
			}
		})
	}
	if right < 1000 {
		t.Errorf("only %d trees were right", right)
	}
}

func TestManyGreatTrees(t *testing.T) {
	r := rand.New(rand.NewSource(4))
	greatest := 0
	for range 40 {
		a := tree.New(leafOf(r.Intn(9)))
		growing := 3 + r.Intn(4)
		for range 90 {
			a = stepped(t, r, a, growing)
			greatest = max(greatest, len(tree.Members(a)))
			if !tree.Check(a) || !modelCheck(a) {
				t.Fatalf("not right: %v", a)
			}
		}
		comparesAll(t, a)
	}
	if greatest != api.MaxLeaves {
		t.Errorf("no tree grew above %d leaves", greatest)
	}
}

// stepped changes a tree by one call, and holds the answer against the model's.
func stepped(t *testing.T, r *rand.Rand, a []api.Vertex, growing int) []api.Vertex {
	t.Helper()
	members := tree.Members(a)
	i, leaf := members[r.Intn(len(members))], odd(r.Intn(900))
	var b, want []api.Vertex
	var e, wantErr api.Errno
	switch k := r.Intn(10); {
	case k < growing:
		b, _, e = tree.Add(a, leaf)
		want, _, wantErr = modelAdd(a, leaf)
	case k < 7:
		b, e = tree.Remove(a, i)
		want, wantErr = modelRemove(a, i)
	case k < 8:
		b, e = tree.Update(a, i, leaf)
		want, wantErr = modelUpdate(a, i, leaf)
	default:
		path, _ := modelFiltered(a, i)
		keys, hashes := rising(len(path), r.Intn(900)), rising(len(path), r.Intn(900))
		b, e = tree.Merge(a, i, leaf, keys, hashes)
		want, wantErr = modelMerge(a, i, leaf, keys, hashes)
	}
	if e != wantErr || !sameTree(b, want) {
		t.Fatalf("of %v: %v, %d, not %v, %d", a, b, e, want, wantErr)
	}
	if e != api.OK {
		return a
	}
	return b
}

func rising(n, from int) []int {
	list := make([]int, n)
	for k := range list {
		list[k] = from + k
	}
	return list
}

// comparesAll holds every call on a tree against the model.
func comparesAll(t *testing.T, a []api.Vertex) {
	t.Helper()
	n := sizeOf(a)
	if tree.Leaves(a) != n || !slices.Equal(tree.Members(a), modelMembers(a)) {
		t.Fatalf("of %v: %d leaves, members %v", a, tree.Leaves(a), tree.Members(a))
	}
	for client := -1; client < 4; client++ {
		i, ok := tree.Find(a, client)
		if wantI, wantOk := modelFind(a, client); i != wantI || ok != wantOk {
			t.Fatalf("Find(%v, %d): %d, %v", a, client, i, ok)
		}
	}
	for x, s := range spans(n) {
		if got, want := tree.Resolution(a, x), modelResolution(a, s); !slices.Equal(got, want) {
			t.Fatalf("Resolution(%v, %d): %v, not %v", a, x, got, want)
		}
	}
	b, i, e := tree.Add(a, odd(77))
	want, wantI, wantErr := modelAdd(a, odd(77))
	if i != wantI {
		t.Fatalf("Add(%v): %d, not %d", a, i, wantI)
	}
	compares(t, "Add", a, b, e, want, wantErr)
	for i := range n {
		comparesLeaf(t, a, i)
	}
}

func comparesLeaf(t *testing.T, a []api.Vertex, i int) {
	t.Helper()
	path, copath := tree.Filtered(a, i)
	wantPath, wantCopath := modelFiltered(a, i)
	if !slices.Equal(path, wantPath) || !slices.Equal(copath, wantCopath) {
		t.Fatalf("Filtered(%v, %d): %v and %v", a, i, path, copath)
	}
	b, e := tree.Update(a, i, odd(77))
	want, wantErr := modelUpdate(a, i, odd(77))
	compares(t, "Update", a, b, e, want, wantErr)
	b, e = tree.Remove(a, i)
	want, wantErr = modelRemove(a, i)
	compares(t, "Remove", a, b, e, want, wantErr)
	for more := range 2 {
		keys, hashes := rising(len(path)+more, 100), rising(len(path), 200)
		b, e = tree.Merge(a, i, odd(77), keys, hashes)
		want, wantErr = modelMerge(a, i, odd(77), keys, hashes)
		compares(t, "Merge", a, b, e, want, wantErr)
	}
}

func compares(t *testing.T, what string, a, b []api.Vertex, e api.Errno, want []api.Vertex, wantErr api.Errno) {
	t.Helper()
	if e != wantErr || !sameTree(b, want) {
		t.Fatalf("%s of %v:\n got %v, %d\nwant %v, %d", what, a, b, e, want, wantErr)
	}
	if e == api.OK && !tree.Check(b) {
		t.Fatalf("%s of %v: not right: %v", what, a, b)
	}
}

// P1: lists that are no right trees are none of the promises but Check's; even so, nothing panics.
func TestNothingPanics(t *testing.T) {
	wild := full(4)
	wild[3].Late = []int{math.MaxInt, -9, 0, 0}
	wild[4].Late = []int{math.MinInt, 77}
	for _, a := range [][]api.Vertex{nil, {}, full(2)[:2], full(64), full(4)[:5], make([]api.Vertex, 7), {blank()}, wild} {
		tree.Check(a)
		tree.Leaves(a)
		tree.Members(a)
		tree.Find(a, 0)
		tree.Add(a, leafOf(0))
		for _, i := range append(noLeaves(4), 0, 1, 2, 3, 4, 5, 6, 7, 62, 63, 126) {
			tree.Resolution(a, i)
			tree.Filtered(a, i)
			tree.Update(a, i, leafOf(0))
			tree.Remove(a, i)
			for m := range 7 {
				tree.Merge(a, i, leafOf(0), make([]int, m), make([]int, m))
			}
		}
	}
}
