package digest_test

import (
	"math"
	"math/rand"
	"slices"
	"strconv"
	"testing"

	"conclave/api"
	"conclave/digest"
	"conclave/term"
	"conclave/tree"
)

const draws = 200

// drawn is a store whose terms 1 to 200 are the atoms of these numbers, and in which nothing else is made yet.
func drawn() *term.Store {
	s := term.New()
	for range draws {
		s.Fresh()
	}
	return s
}

func leafOf(i int) api.Vertex {
	return api.Vertex{Full: true, Key: 1 + i, Client: 500 + i, Sig: 41 + i, Hash: 81 + i}
}

func parentOf(x int, late ...int) api.Vertex {
	return api.Vertex{Full: true, Key: 121 + x/2, Hash: 161 + x/2, Late: late}
}

func blank() api.Vertex { return api.Vertex{} }

// full is a tree of n full leaves, its parents full too, no part of it 0.
func full(n int) []api.Vertex {
	t := make([]api.Vertex, 2*n-1)
	for x := range t {
		if x%2 == 0 {
			t[x] = leafOf(x / 2)
		} else {
			t[x] = parentOf(x)
		}
	}
	return t
}

// mixed has all kinds of vertices: 1 and 5 are blank leaves, 9 and 3 blank parents, 11 and 7 full ones with a Late, 1 and 13 without.
func mixed() []api.Vertex {
	t := full(8)
	t[2], t[10], t[9], t[3] = blank(), blank(), blank(), blank()
	t[7], t[11] = parentOf(7, 0, 3, 6), parentOf(11, 4)
	return t
}

// noTerms are numbers that are no terms of drawn, among them those that a call's own terms would bear.
func noTerms() []int {
	list := []int{-1, math.MinInt, math.MaxInt, draws + 1000}
	for k := range 40 {
		list = append(list, draws+1+k)
	}
	return list
}

// noLeaves are no numbers of leaves of a tree of n; the double of some wraps round to a place.
func noLeaves(n int) []int {
	return []int{-1, -2, -n, math.MinInt, math.MinInt + 1, n, n + 1, 2 * n, 32, math.MaxInt, math.MaxInt/2 + 1}
}

func wantTerm(t *testing.T, what string, s *term.Store, got int, want string) {
	t.Helper()
	if w := written(s, got); w != want {
		t.Errorf("%s:\n got %s\nwant %s", what, w, want)
	}
}

func wantZero(t *testing.T, what string, got int) {
	t.Helper()
	if got != 0 {
		t.Errorf("%s: the term %d, not 0", what, got)
	}
}

func wantParents(t *testing.T, s *term.Store, a []api.Vertex, i int, keys []int, want []string, leaf string) {
	t.Helper()
	hashes, own := digest.Parents(s, a, i, keys)
	var got []string
	for _, h := range hashes {
		got = append(got, written(s, h))
	}
	if w := written(s, own); !slices.Equal(got, want) || w != leaf {
		t.Errorf("Parents of %d with %v:\n got %q and %s\nwant %q and %s", i, keys, got, w, want, leaf)
	}
}

func wantNoParents(t *testing.T, what string, s *term.Store, a []api.Vertex, i int, keys []int) {
	t.Helper()
	if hashes, leaf := digest.Parents(s, a, i, keys); len(hashes) != 0 || leaf != 0 {
		t.Errorf("%s: Parents of %d with %v: %v and %d, not none and 0", what, i, keys, hashes, leaf)
	}
}

// P5.1

func TestNumber(t *testing.T) {
	for _, c := range []struct {
		n    int
		want string
	}{
		{0, "0"}, {1, "1"}, {9, "9"}, {10, "10"}, {105, "105"}, {31, "31"}, {api.MaxNumber, "1099511627776"},
		{-1, "-1"}, {-12, "-12"}, {-100, "-100"},
		{math.MaxInt, "9223372036854775807"}, {math.MinInt, "-9223372036854775808"},
	} {
		s := term.New()
		got := digest.Number(s, c.n)
		if node, ok := s.Get(got); !ok || node != (api.Node{Kind: api.Text, Label: c.want}) {
			t.Errorf("Number(%d): %v", c.n, node)
		}
		if digest.Number(s, c.n) != got || s.Len() != 1 {
			t.Errorf("Number(%d) again: %d, %d terms", c.n, digest.Number(s, c.n), s.Len())
		}
	}
}

// The chapter's examples, made by the store's own calls.
func TestExamples(t *testing.T) {
	s := term.New()
	if got := digest.Number(s, -12); got != s.Text("-12") {
		t.Errorf("Number(-12): %d", got)
	}
	k, g := s.Fresh(), s.Fresh()
	one := []api.Vertex{{Full: true, Key: k, Client: 3, Sig: g}}
	want := s.Hash("leaf", s.List([]int{s.Text("0"), s.Text("3"), k, g, s.Text("")}))
	if got := digest.Tree(s, one); got != want {
		t.Errorf("Tree: %d, not %d", got, want)
	}
	if got := digest.Hash(s, one, 0); got != want {
		t.Errorf("Hash: %d, not %d", got, want)
	}
}

func TestHashOfLeaves(t *testing.T) {
	s := drawn()
	a := full(4)
	a[2] = blank()
	a[4].Client, a[6].Client = 0, -7
	wantTerm(t, "the first", s, digest.Hash(s, a, 0), `leaf["0" "500" a1 a41 a81]`)
	wantTerm(t, "a blank one", s, digest.Hash(s, a, 2), `leaf["1"]`)
	wantTerm(t, "a Client of 0", s, digest.Hash(s, a, 4), `leaf["2" "0" a3 a43 a83]`)
	wantTerm(t, "a Client below 0", s, digest.Hash(s, a, 6), `leaf["3" "-7" a4 a44 a84]`)
	wantTerm(t, "the last of most", s, digest.Hash(s, full(api.MaxLeaves), 62), `leaf["31" "531" a32 a72 a112]`)
}

func TestHashOfNone(t *testing.T) {
	s := drawn()
	for _, c := range []struct {
		v    api.Vertex
		want string
	}{
		{api.Vertex{Full: true, Client: 5, Sig: 2, Hash: 3}, `leaf["0" "5" "" a2 a3]`},
		{api.Vertex{Full: true, Client: 5, Key: 1, Hash: 3}, `leaf["0" "5" a1 "" a3]`},
		{api.Vertex{Full: true, Client: 5, Key: 1, Sig: 2}, `leaf["0" "5" a1 a2 ""]`},
		{api.Vertex{Full: true}, `leaf["0" "0" "" "" ""]`},
	} {
		wantTerm(t, "a leaf", s, digest.Tree(s, []api.Vertex{c.v}), c.want)
	}
	a := []api.Vertex{blank(), {Full: true, Key: 1}, leafOf(1)}
	right := `leaf["1" "501" a2 a42 a82]`
	wantTerm(t, "a parent's Hash", s, digest.Tree(s, a), `node[a1 "" "" leaf["0"] `+right+`]`)
	a[1] = api.Vertex{Full: true, Hash: 1}
	wantTerm(t, "a parent's Key", s, digest.Tree(s, a), `node["" a1 "" leaf["0"] `+right+`]`)
	a[1] = api.Vertex{Full: true}
	wantTerm(t, "both", s, digest.Tree(s, a), `node["" "" "" leaf["0"] `+right+`]`)
}

func TestHashOfParents(t *testing.T) {
	s := drawn()
	a := []api.Vertex{leafOf(0), parentOf(1), leafOf(1)}
	left, right := `leaf["0" "500" a1 a41 a81]`, `leaf["1" "501" a2 a42 a82]`
	wantTerm(t, "full", s, digest.Tree(s, a), `node[a121 a161 "" `+left+` `+right+`]`)
	a[1].Late = []int{}
	wantTerm(t, "an empty Late", s, digest.Tree(s, a), `node[a121 a161 "" `+left+` `+right+`]`)
	a[1].Late = []int{1}
	wantTerm(t, "a Late of one", s, digest.Tree(s, a), `node[a121 a161 ["1"] `+left+` `+right+`]`)
	a[1].Late = []int{0, 1}
	wantTerm(t, "a Late of two", s, digest.Tree(s, a), `node[a121 a161 ["0" "1"] `+left+` `+right+`]`)
	a[1] = blank()
	wantTerm(t, "blank", s, digest.Tree(s, a), `blank[`+left+` `+right+`]`)
	a[0] = blank()
	wantTerm(t, "blank over a blank leaf", s, digest.Hash(s, a, 1), `blank[leaf["0"] `+right+`]`)
}

func TestHashOfEachPlace(t *testing.T) {
	s := drawn()
	four := []api.Vertex{leafOf(0), blank(), blank(), parentOf(3, 0, 2), leafOf(2), parentOf(5), leafOf(3)}
	low := `blank[leaf["0" "500" a1 a41 a81] leaf["1"]]`
	high := `node[a123 a163 "" leaf["2" "502" a3 a43 a83] leaf["3" "503" a4 a44 a84]]`
	wantTerm(t, "the left half", s, digest.Hash(s, four, 1), low)
	wantTerm(t, "the right half", s, digest.Hash(s, four, 5), high)
	wantTerm(t, "the root", s, digest.Hash(s, four, 3), `node[a122 a162 ["0" "2"] `+low+` `+high+`]`)
	for _, n := range []int{1, 2, 4, 8, 16, 32} {
		a := full(n)
		for _, b := range spans(span{0, n}) {
			wantTerm(t, "of "+strconv.Itoa(n), s, digest.Hash(s, a, b.place()), modelHash(s, a, b))
		}
		wantTerm(t, "the tree of "+strconv.Itoa(n), s, digest.Tree(s, a), modelHash(s, a, span{0, n}))
	}
}

// Each thing of a vertex is in the hash, of its place and of all above it; what is beside isn't.
func TestHashHangsOnEachPart(t *testing.T) {
	s := drawn()
	base := mixed()
	for _, c := range []struct {
		name   string
		change func(a []api.Vertex)
	}{
		{"the leaf's Key", func(a []api.Vertex) { a[4].Key = 200 }},
		{"the leaf's Client", func(a []api.Vertex) { a[4].Client++ }},
		{"the leaf's Sig", func(a []api.Vertex) { a[4].Sig = 200 }},
		{"the leaf's Hash", func(a []api.Vertex) { a[4].Hash = 200 }},
		{"no leaf", func(a []api.Vertex) { a[4] = blank() }},
		{"Key and Sig swapped", func(a []api.Vertex) { a[4].Key, a[4].Sig = a[4].Sig, a[4].Key }},
		{"the parent's Key", func(a []api.Vertex) { a[5].Key = 200 }},
		{"the parent's Hash", func(a []api.Vertex) { a[5].Hash = 200 }},
		{"the parent's Late", func(a []api.Vertex) { a[5].Late = []int{3} }},
		{"no parent", func(a []api.Vertex) { a[5] = blank() }},
		{"children swapped", func(a []api.Vertex) { a[4], a[6] = a[6], a[4] }},
	} {
		a := slices.Clone(base)
		c.change(a)
		for _, x := range []int{5, 3, 7} {
			if digest.Hash(s, a, x) == digest.Hash(s, base, x) {
				t.Errorf("%s: the hash of %d stays", c.name, x)
			}
		}
		for _, x := range []int{0, 1, 2, 11, 8, 14} {
			if digest.Hash(s, a, x) != digest.Hash(s, base, x) {
				t.Errorf("%s: the hash of %d changes", c.name, x)
			}
		}
	}
}

func TestHashOfNoPlace(t *testing.T) {
	s := drawn()
	for _, n := range []int{1, 2, 4, 8, 16, 32} {
		for _, x := range []int{-1, -2, math.MinInt, 2*n - 1, 2 * n, 63, 64, math.MaxInt} {
			wantZero(t, "of "+strconv.Itoa(n)+" at "+strconv.Itoa(x), digest.Hash(s, full(n), x))
		}
	}
	if s.Len() != draws {
		t.Error("terms are made of places that are none")
	}
}

// What is asked for is what is a term when the call begins: a number that the call's own terms would bear is none.
func TestHashOfNoTerms(t *testing.T) {
	for x, v := range mixed() {
		if !v.Full {
			continue // a right tree has 0 there, as in a parent's Sig
		}
		for _, n := range noTerms() {
			a := mixed()
			a[x].Key = n
			wrongAt(t, a, x)
			a = mixed()
			a[x].Hash = n
			wrongAt(t, a, x)
			if x%2 == 0 {
				a = mixed()
				a[x].Sig = n
				wrongAt(t, a, x)
			}
		}
	}
}

// wrongAt asks for 0 at the place and above it, each in a store in which nothing has been made yet, and for hashes elsewhere.
func wrongAt(t *testing.T, a []api.Vertex, x int) {
	t.Helper()
	for _, b := range spans(whole(a)) {
		got := digest.Hash(drawn(), a, b.place())
		if wrong := slices.ContainsFunc(spans(b), func(c span) bool { return c.place() == x }); wrong != (got == 0) {
			t.Errorf("%v at %d: the hash of %d is %d", a[x], x, b.place(), got)
		}
	}
	wantZero(t, "the tree", digest.Tree(drawn(), a))
}

func TestTreeIsTheHashOfTheRoot(t *testing.T) {
	s := drawn()
	for _, a := range [][]api.Vertex{full(1), full(2), mixed(), full(32)} {
		root := (len(a) - 1) / 2
		if got := digest.Tree(s, a); got == 0 || got != digest.Hash(s, a, root) {
			t.Errorf("%d, not %d", got, digest.Hash(s, a, root))
		}
	}
	wantZero(t, "of no tree", digest.Tree(s, nil))
}

// P5.2

func TestParentsOfAnEmptyPath(t *testing.T) {
	s := drawn()
	wantParents(t, s, full(1), 0, nil, nil, `""`)
	wantParents(t, s, full(1), 0, []int{}, nil, `""`)
	alone := make([]api.Vertex, 63)
	alone[62] = leafOf(31)
	wantParents(t, s, alone, 31, nil, nil, `""`)
	wantNoParents(t, "a key too many", s, full(1), 0, []int{1})
	wantNoParents(t, "a key too many", s, alone, 31, []int{1})
}

func TestParentsOfOnePlace(t *testing.T) {
	s := drawn()
	a := full(2)
	wantParents(t, s, a, 0, []int{7}, []string{`""`}, `parent[a7 "" leaf["1" "501" a2 a42 a82]]`)
	wantParents(t, s, a, 1, []int{8}, []string{`""`}, `parent[a8 "" leaf["0" "500" a1 a41 a81]]`)
	// A blank leaf has a number, too.
	a[0] = blank()
	wantParents(t, s, a, 0, []int{7}, []string{`""`}, `parent[a7 "" leaf["1" "501" a2 a42 a82]]`)
	wantParents(t, s, a, 1, nil, nil, `""`)
}

func TestParentsOfMorePlaces(t *testing.T) {
	s := drawn()
	a := full(4)
	a[3].Late, a[5].Late = []int{1}, []int{3}
	leaf := func(i int) string { return modelHash(s, a, span{i, i + 1}) }
	top := `parent[a12 "" node[a123 a163 ["3"] ` + leaf(2) + ` ` + leaf(3) + `]]`
	wantParents(t, s, a, 0, []int{11, 12}, []string{top, `""`}, `parent[a11 `+top+` `+leaf(1)+`]`)
	wantParents(t, s, a, 1, []int{11, 12}, []string{top, `""`}, `parent[a11 `+top+` `+leaf(0)+`]`)
	top = `parent[a12 "" node[a121 a161 "" ` + leaf(0) + ` ` + leaf(1) + `]]`
	wantParents(t, s, a, 2, []int{11, 12}, []string{top, `""`}, `parent[a11 `+top+` `+leaf(3)+`]`)
	wantParents(t, s, a, 3, []int{11, 11}, []string{`parent[a11 ` + top[len(`parent[a12 `):], `""`}, `parent[a11 parent[a11 `+top[len(`parent[a12 `):]+` `+leaf(2)+`]`)
}

func TestParentsLeaveOutWhatIsFiltered(t *testing.T) {
	s := drawn()
	a := full(8)
	for _, x := range []int{2, 4, 5, 6} { // the right child of the lowest place, and the whole right half of the next
		a[x] = blank()
	}
	right := modelHash(s, a, span{4, 8})
	wantParents(t, s, a, 0, []int{9}, []string{`""`}, `parent[a9 "" `+right+`]`)
	a[5] = parentOf(5) // full, though all below it is blank: the place above counts
	half := modelHash(s, a, span{2, 4})
	top := `parent[a10 "" ` + right + `]`
	wantParents(t, s, a, 0, []int{9, 10}, []string{top, `""`}, `parent[a9 `+top+` `+half+`]`)
	// The root is left out: the highest place of the filtered path is another one.
	b := full(8)
	for x := range 8 {
		b[x] = blank()
	}
	low := `parent[a10 "" ` + modelHash(s, b, span{4, 6}) + `]`
	wantParents(t, s, b, 7, []int{9, 10}, []string{low, `""`}, `parent[a9 `+low+` `+modelHash(s, b, span{6, 7})+`]`)
}

// What stands at the leaf and above it is about to be replaced: nothing hangs on it.
func TestParentsLeaveOutThePathItself(t *testing.T) {
	s := drawn()
	a := mixed()
	keys := []int{21, 22, 23}
	want, leaf := digest.Parents(s, a, 2, keys)
	for _, x := range []int{4, 5, 3, 7} {
		for _, v := range []api.Vertex{blank(), {Full: true, Key: 199, Hash: 198}, {Full: true, Key: -1, Hash: s.Len() + 1}} {
			b := slices.Clone(a)
			b[x] = v
			if got, own := digest.Parents(s, b, 2, keys); own == 0 || own != leaf || !slices.Equal(got, want) {
				t.Errorf("%v at %d: %v and %d, not %v and %d", v, x, got, own, want, leaf)
			}
		}
	}
}

func TestParentsOfNoLeaf(t *testing.T) {
	s := drawn()
	for _, n := range []int{1, 2, 8, 32} {
		for _, i := range noLeaves(n) {
			for _, keys := range [][]int{nil, {1}, {1, 2}, {1, 2, 3}, {1, 2, 3, 4, 5}} {
				wantNoParents(t, "of "+strconv.Itoa(n), s, full(n), i, keys)
			}
		}
	}
}

func TestParentsOfTooFewOrTooManyKeys(t *testing.T) {
	s := drawn()
	// Beside the leaves 0 and 4 there is a blank one.
	for i, right := range []int{2, 3, 3, 3, 2, 3, 3, 3} {
		for count := range 7 {
			keys := []int{30, 31, 32, 33, 34, 35, 36}[:count]
			if count != right {
				wantNoParents(t, "keys", s, mixed(), i, keys)
			} else if hashes, leaf := digest.Parents(s, mixed(), i, keys); len(hashes) != right || leaf == 0 {
				t.Errorf("Parents of %d: %v and %d", i, hashes, leaf)
			}
		}
	}
}

func TestParentsOfKeysThatAreNoTerms(t *testing.T) {
	for _, at := range []int{0, 1, 2} {
		for _, key := range append(noTerms(), 0) {
			keys := []int{31, 32, 33}
			keys[at] = key
			wantNoParents(t, "a key that is no term", drawn(), mixed(), 2, keys)
		}
	}
	for _, key := range append(noTerms(), 0) {
		wantNoParents(t, "the only key", drawn(), full(2), 0, []int{key})
	}
}

func TestParentsBesideWhatIsNoTerm(t *testing.T) {
	for _, n := range noTerms() {
		for _, x := range []int{6, 0, 1, 11, 8, 12, 13, 14} { // on the copath of the leaf 2, and below
			a := mixed()
			a[x].Key = n
			wantNoParents(t, "a Key", drawn(), a, 2, []int{31, 32, 33})
			a = mixed()
			a[x].Hash = n
			wantNoParents(t, "a Hash", drawn(), a, 2, []int{31, 32, 33})
			if x%2 == 0 {
				a = mixed()
				a[x].Sig = n
				wantNoParents(t, "a Sig", drawn(), a, 2, []int{31, 32, 33})
			}
		}
	}
}

// Behind a path the tree tells the same parent hashes of it: by that a leaf is bound to the path above it.
func TestParentsOfAMergedPath(t *testing.T) {
	s := drawn()
	a := mixed()
	keys := []int{31, 32, 33}
	hashes, leaf := digest.Parents(s, a, 2, keys)
	b, e := tree.Merge(a, 2, api.Vertex{Key: 34, Client: 502, Sig: 43, Hash: leaf}, keys, hashes)
	if e != api.OK {
		t.Fatal(e)
	}
	again, own := digest.Parents(s, b, 2, keys)
	if own != leaf || !slices.Equal(again, hashes) {
		t.Errorf("%v and %d, not %v and %d", again, own, hashes, leaf)
	}
	b[12].Key = 35
	if _, own = digest.Parents(s, b, 2, keys); own == leaf || own == 0 {
		t.Error("another key beside the path, and the same parent hash")
	}
}

// Every shape and many sizes against the words.

// against asks for all hashes of a tree and all parent hashes of its leaves.
func against(t *testing.T, s *term.Store, a []api.Vertex) {
	t.Helper()
	for _, b := range spans(whole(a)) {
		wantTerm(t, "Hash", s, digest.Hash(s, a, b.place()), modelHash(s, a, b))
	}
	wantTerm(t, "Tree", s, digest.Tree(s, a), modelHash(s, a, whole(a)))
	for i := range whole(a).hi {
		keys := make([]int, len(beside(a, i)))
		for k := range keys {
			keys[k] = 1 + (31*i+7*k)%draws
		}
		hashes, leaf := modelParents(s, a, i, keys)
		wantParents(t, s, a, i, keys, hashes, leaf)
		wantNoParents(t, "a key too many", s, a, i, append(slices.Clone(keys), 1))
		if len(keys) > 0 {
			wantNoParents(t, "a key too few", s, a, i, keys[1:])
		}
	}
}

func TestEveryShapeOfFewLeaves(t *testing.T) {
	s := drawn()
	for _, n := range []int{1, 2, 4} {
		shapes := 1
		for range 2*n - 1 {
			shapes *= 3
		}
		for shape := range shapes {
			if a := shaped(n, shape); tree.Check(a) {
				against(t, s, a)
			}
		}
	}
}

// shaped reads a shape's digits in the base 3, one a place: blank; full; full with a part that is 0, or with all below it late.
func shaped(n, shape int) []api.Vertex {
	a := make([]api.Vertex, 2*n-1)
	for x := range a {
		digit := shape % 3
		shape /= 3
		switch {
		case digit > 0 && x%2 == 0:
			a[x] = leafOf(x / 2)
			if digit == 2 {
				a[x].Hash = 0
			}
		case digit > 0:
			a[x] = parentOf(x)
		}
		if digit == 2 && x%2 == 1 {
			a[x].Late = []int{-1}
		}
	}
	for _, b := range spans(span{0, n}) {
		if v := &a[b.place()]; len(v.Late) > 0 {
			v.Late = slices.DeleteFunc(tree.Members(a), func(i int) bool { return !b.has(i) })
		}
	}
	return a
}

func TestGrownTrees(t *testing.T) {
	r := rand.New(rand.NewSource(5))
	for range 20 {
		s := drawn()
		a := tree.New(someLeaf(r))
		for range 40 {
			a = changed(r, a)
			if r.Intn(4) == 0 {
				against(t, s, a)
			}
		}
	}
}

func someLeaf(r *rand.Rand) api.Vertex {
	return api.Vertex{Key: r.Intn(draws + 1), Client: r.Intn(99) - 9, Sig: r.Intn(draws + 1), Hash: r.Intn(2) * r.Intn(draws+1)}
}

// changed does one of tree's changes; what it refuses leaves the tree as it is.
func changed(r *rand.Rand, a []api.Vertex) []api.Vertex {
	i := r.Intn(tree.Leaves(a))
	b, e := a, api.OK
	switch r.Intn(6) {
	case 0, 1, 2:
		b, _, e = tree.Add(a, someLeaf(r))
	case 3:
		b, e = tree.Remove(a, i)
	default:
		path, _ := tree.Filtered(a, i)
		keys, hashes := make([]int, len(path)), make([]int, len(path))
		for k := range path {
			keys[k], hashes[k] = r.Intn(draws+1), r.Intn(draws+1)
		}
		b, e = tree.Merge(a, i, someLeaf(r), keys, hashes)
	}
	if e != api.OK {
		return a
	}
	return b
}
