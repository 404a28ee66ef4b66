package kem_test

import (
	"math"
	"slices"
	"strconv"
	"testing"

	"conclave/api"
	"conclave/digest"
	"conclave/kem"
	"conclave/term"
	"conclave/tree"
)

// A test's store begins with 100 atoms and then has the Pubs of the first 63: the place x has the secret 1 + x, and 101 + x for its Key.

const (
	draws   = 100
	newLeaf = 98
	start   = 99
	other   = 100
)

func drawn() *term.Store {
	s := term.New()
	for range draws {
		s.Fresh()
	}
	for x := range 63 {
		s.Pub(secretOf(x))
	}
	return s
}

func secretOf(x int) int { return 1 + x }
func keyOf(x int) int    { return draws + 1 + x }

func leafOf(i int) api.Vertex {
	return api.Vertex{Full: true, Key: keyOf(2 * i), Client: 500 + i, Sig: 64 + i, Hash: 97}
}

func parentOf(x int, late ...int) api.Vertex {
	return api.Vertex{Full: true, Key: keyOf(x), Hash: 96, Late: late}
}

func blank() api.Vertex { return api.Vertex{} }

func full(n int) []api.Vertex {
	t := make([]api.Vertex, 2*n-1)
	for x := range t {
		if x%2 == 0 {
			t[x] = leafOf(x / 2)
		} else {
			t[x] = parentOf(x)
		}
	}
	return t
}

// mixed has all kinds of vertices: 1 and 5 are blank leaves, 9 and 3 blank parents, 11 and 7 full ones with a Late, 1, 5 and 13 without.
func mixed() []api.Vertex {
	t := full(8)
	t[2], t[10], t[9], t[3] = blank(), blank(), blank(), blank()
	t[7], t[11] = parentOf(7, 0, 3, 6), parentOf(11, 4)
	return t
}

// knownTo are the secrets that a member has: of its leaf, and of the full places above it where it isn't late.
func knownTo(t []api.Vertex, j int) []kem.Secret {
	var list []kem.Secret
	for x := range t {
		if v := t[x]; x == 2*j || v.Full && slices.Contains(above(t, j), x) && !slices.Contains(v.Late, j) {
			list = append(list, kem.Secret{Place: x, Term: secretOf(x)})
		}
	}
	return list
}

// everySecret is of all places, also where they are blank, and beyond the tree.
func everySecret(t []api.Vertex) []kem.Secret {
	var list []kem.Secret
	for x := -2; x < len(t)+3; x++ {
		list = append(list, kem.Secret{Place: x, Term: secretOf(x + 2)})
	}
	return list
}

// noLeaves are no numbers of leaves of a tree of n; the double of some wraps round to a place.
func noLeaves(n int) []int {
	return []int{-1, -2, -n, math.MinInt, math.MinInt + 1, n, n + 1, 2 * n, 64, math.MaxInt, math.MaxInt/2 + 1}
}

// noTerms are numbers that are no terms of a store, among them those that a call's own terms would bear.
func noTerms(s *term.Store) []int {
	list := []int{0, -1, math.MinInt, math.MaxInt}
	for k := range 60 {
		list = append(list, s.Len()+1+k)
	}
	return list
}

func made(t *testing.T, s *term.Store, a []api.Vertex, i int, fresh ...int) kem.Made {
	t.Helper()
	m, e := kem.Make(s, a, i, newLeaf, start, fresh)
	if e != api.OK {
		t.Fatalf("Make for %d: %d", i, e)
	}
	return m
}

// P6.1

func TestKnown(t *testing.T) {
	list := []kem.Secret{{Place: 0, Term: 7}, {Place: 3, Term: 8}, {Place: 6, Term: 0}, {Place: 11, Term: -5}}
	for _, x := range list {
		if got, ok := kem.Known(list, x.Place); !ok || got != x.Term {
			t.Errorf("Known of %d: %d, %v", x.Place, got, ok)
		}
	}
	for _, place := range []int{-1, 1, 2, 4, 5, 7, 12, math.MinInt, math.MaxInt} {
		if got, ok := kem.Known(list, place); ok || got != 0 {
			t.Errorf("Known of %d: %d, %v", place, got, ok)
		}
	}
	if got, ok := kem.Known(nil, 0); ok || got != 0 {
		t.Errorf("Known in none: %d, %v", got, ok)
	}
}

func TestTrim(t *testing.T) {
	a := mixed()
	at := func(places ...int) []kem.Secret {
		var list []kem.Secret
		for _, x := range places {
			list = append(list, kem.Secret{Place: x, Term: secretOf(x + 2)})
		}
		return list
	}
	for i, want := range [][]int{{0, 1, 7}, {1, 7}, {4, 5, 7}, {5, 6, 7}, {7, 8, 11}, {7, 11}, {7, 11, 12, 13}, {7, 11, 13, 14}} {
		wantSecrets(t, "Trim of "+strconv.Itoa(i), kem.Trim(a, i, everySecret(a)), at(want...)...)
	}
	wantSecrets(t, "Trim of fewer", kem.Trim(a, 3, at(1, 3, 6, 11)), at(6)...)
	wantSecrets(t, "Trim of none", kem.Trim(a, 3, nil))
	wantSecrets(t, "Trim where nothing is left", kem.Trim(a, 3, at(2, 4, 12)))
	wantSecrets(t, "one leaf", kem.Trim(full(1), 0, everySecret(full(1))), at(0)...)
	wantSecrets(t, "their order", kem.Trim(a, 3, at(7, 6, 4, 5)), at(7, 6, 5)...)
}

func TestTrimOfNoLeaf(t *testing.T) {
	for _, n := range []int{1, 2, 8, 32} {
		for _, i := range noLeaves(n) {
			wantSecrets(t, "Trim of "+strconv.Itoa(i), kem.Trim(full(n), i, everySecret(full(n))))
		}
	}
}

// P6.2

// The chapter's example, with Apply's.
func TestExample(t *testing.T) {
	s := term.New()
	a, b, c, p := s.Fresh(), s.Fresh(), s.Fresh(), s.Fresh()
	tr := []api.Vertex{{Full: true, Key: s.Pub(a)}, {}, {Full: true, Key: s.Pub(b)}}
	m, e := kem.Make(s, tr, 0, c, p, nil)
	if e != api.OK {
		t.Fatal(e)
	}
	wantPath(t, s, m.Path, "pub(a3)", "[pub(node(a4))]", "[box(pub(a2) a4)]")
	wantText(t, "Secrets", writtenSecrets(s, m.Secrets), "0:a3 1:node(a4)")
	wantText(t, "Commit", written(s, m.Commit), "path(a4)")
	x, e := kem.Apply(s, tr, 1, []kem.Secret{{Place: 2, Term: b}}, 0, m.Path, nil)
	if e != api.OK || x.Commit != m.Commit || !sameTree(x.Tree, m.Tree) || !samePath(x.Path, m.Path) {
		t.Errorf("%v, %d", x, e)
	}
	wantText(t, "Secrets", writtenSecrets(s, x.Secrets), "1:node(a4) 2:a2")
}

func TestMake(t *testing.T) {
	s := drawn()
	m := made(t, s, full(4), 0)
	wantPath(t, s, m.Path, "pub(a98)", "[pub(node(a99)) pub(node(path(a99)))]", "[box(pub(a3) a99)]", "[box(pub(a6) path(a99))]")
	wantText(t, "Secrets", writtenSecrets(s, m.Secrets), "0:a98 1:node(a99) 3:node(path(a99))")
	wantText(t, "Commit", written(s, m.Commit), "path(path(a99))")
	// Up the tree the places go down and up by turns: the secrets rise.
	m = made(t, s, full(4), 3)
	wantPath(t, s, m.Path, "pub(a98)", "[pub(node(a99)) pub(node(path(a99)))]", "[box(pub(a5) a99)]", "[box(pub(a2) path(a99))]")
	wantText(t, "Secrets", writtenSecrets(s, m.Secrets), "3:node(path(a99)) 5:node(a99) 6:a98")
	m = made(t, s, full(8), 2)
	wantText(t, "Secrets", writtenSecrets(s, m.Secrets), "3:node(path(a99)) 4:a98 5:node(a99) 7:node(path(path(a99)))")
	wantText(t, "Commit", written(s, m.Commit), "path(path(path(a99)))")
}

func TestMakeBoxesForResolutions(t *testing.T) {
	s := drawn()
	keys := "[pub(node(a99)) pub(node(path(a99)))]"
	a := full(4)
	a[5].Late = []int{2, 3}
	wantPath(t, s, made(t, s, a, 0).Path, "pub(a98)", keys, "[box(pub(a3) a99)]", "[box(pub(a6) path(a99)) box(pub(a5) path(a99)) box(pub(a7) path(a99))]")
	a[5] = blank()
	wantPath(t, s, made(t, s, a, 0).Path, "pub(a98)", keys, "[box(pub(a3) a99)]", "[box(pub(a5) path(a99)) box(pub(a7) path(a99))]")
	a[4] = blank()
	wantPath(t, s, made(t, s, a, 0).Path, "pub(a98)", keys, "[box(pub(a3) a99)]", "[box(pub(a7) path(a99))]")
}

func TestMakeForNewLeaves(t *testing.T) {
	s := drawn()
	a := full(4)
	a[5].Late = []int{2, 3}
	keys := "[pub(node(a99)) pub(node(path(a99)))]"
	low, high := "[box(pub(a3) a99)]", "[box(pub(a6) path(a99)) box(pub(a7) path(a99))]"
	wantPath(t, s, made(t, s, a, 0, 2).Path, "pub(a98)", keys, low, high)
	wantPath(t, s, made(t, s, a, 0, 5, 2, 2, -1, 4).Path, "pub(a98)", keys, low, high)
	wantPath(t, s, made(t, s, a, 0, 3, 2).Path, "pub(a98)", keys, low, "[box(pub(a6) path(a99))]")
	// No box is left of a place, but its key is.
	wantPath(t, s, made(t, s, a, 0, 1).Path, "pub(a98)", keys, "[]", "[box(pub(a6) path(a99)) box(pub(a5) path(a99)) box(pub(a7) path(a99))]")
	a[5] = blank()
	wantPath(t, s, made(t, s, a, 0, 1, 2, 3).Path, "pub(a98)", keys, "[]", "[]")
	// A leaf's number isn't a place: 1 is a leaf, 1 and 5 are parents, too.
	wantPath(t, s, made(t, s, full(4), 3, 1, 5).Path, "pub(a98)", keys, "[box(pub(a5) a99)]", "[box(pub(a2) path(a99))]")
}

// A place that isn't in the filtered path has no secret, and the path secrets don't count it.
func TestMakeLeavesOutWhatIsFiltered(t *testing.T) {
	s := drawn()
	a := full(8)
	for _, x := range []int{2, 4, 5, 6} {
		a[x] = blank()
	}
	m := made(t, s, a, 0)
	wantPath(t, s, m.Path, "pub(a98)", "[pub(node(a99))]", "[box(pub(a12) a99)]")
	wantText(t, "Secrets", writtenSecrets(s, m.Secrets), "0:a98 7:node(a99)")
	wantText(t, "Commit", written(s, m.Commit), "path(a99)")
	if m.Tree[1].Full || m.Tree[3].Full || !m.Tree[7].Full {
		t.Errorf("%v", m.Tree)
	}
}

func TestMakeAlone(t *testing.T) {
	s := drawn()
	alone := make([]api.Vertex, 63)
	alone[62], alone[47] = leafOf(31), parentOf(47)
	alone[47].Late = []int{31}
	for _, a := range [][]api.Vertex{full(1), alone} {
		i := len(a) / 2
		m := made(t, s, a, i)
		wantPath(t, s, m.Path, "pub(a98)", "[]")
		wantText(t, "Secrets", writtenSecrets(s, m.Secrets), strconv.Itoa(2*i)+":a98")
		if m.Path.Hash != s.Text("") || m.Commit != start {
			t.Errorf("%v", m)
		}
		want := make([]api.Vertex, len(a))
		want[2*i] = api.Vertex{Full: true, Key: s.Pub(newLeaf), Client: 500 + i, Sig: 64 + i, Hash: s.Text("")}
		if !sameTree(m.Tree, want) {
			t.Errorf("%v, not %v", m.Tree, want)
		}
	}
}

func TestTreeBehindAPath(t *testing.T) {
	s := drawn()
	a := mixed()
	m := made(t, s, a, 2)
	hashes, own := digest.Parents(s, a, 2, m.Path.Keys)
	want := mixed()
	want[4] = api.Vertex{Full: true, Key: s.Pub(newLeaf), Client: 502, Sig: 66, Hash: own}
	for k, x := range []int{5, 3, 7} {
		want[x] = api.Vertex{Full: true, Key: m.Path.Keys[k], Hash: hashes[k]}
	}
	if m.Path.Hash != own || !sameTree(m.Tree, want) || !tree.Check(m.Tree) {
		t.Errorf("%v, not %v", m.Tree, want)
	}
	x, e := kem.Apply(s, a, 3, knownTo(a, 3), 2, m.Path, nil)
	if e != api.OK || !sameTree(x.Tree, want) {
		t.Errorf("%v, %d, not %v", x.Tree, e, want)
	}
}

func TestMakeOfNoLeaf(t *testing.T) {
	s := drawn()
	for _, n := range []int{1, 2, 8, 32} {
		for _, i := range noLeaves(n) {
			m, e := kem.Make(s, full(n), i, newLeaf, start, nil)
			wantNone(t, "Make for "+strconv.Itoa(i), m, e, api.ErrLeaf)
		}
	}
	for _, i := range []int{1, 5} {
		m, e := kem.Make(s, mixed(), i, newLeaf, start, nil)
		wantNone(t, "Make for a blank leaf", m, e, api.ErrLeaf)
	}
	m, e := kem.Make(s, mixed(), 1, 0, -1, nil)
	wantNone(t, "ErrLeaf is named first", m, e, api.ErrLeaf)
}

func TestMakeOfNoTerms(t *testing.T) {
	for _, wrong := range noTerms(drawn()) {
		for _, a := range [][]api.Vertex{full(1), full(2), mixed()} {
			m, e := kem.Make(drawn(), a, 0, wrong, start, nil)
			wantNone(t, "a leaf secret that is no term", m, e, api.ErrKey)
			m, e = kem.Make(drawn(), a, 0, newLeaf, wrong, nil)
			wantNone(t, "a first path secret that is no term", m, e, api.ErrKey)
		}
	}
}

// A secret may be any term.
func TestMakeOfAnyTerms(t *testing.T) {
	s := drawn()
	for _, x := range []int{s.Text(""), s.Text("x"), s.Pub(1), s.Kdf("path", start, s.Text("")), keyOf(2), secretOf(2)} {
		for _, y := range []int{x, start} {
			m, e := kem.Make(s, full(4), 0, x, y, nil)
			wantMade(t, "Make", m, e, modelMake(s, full(4), 0, x, y, nil), api.OK)
			m, e = kem.Make(s, full(4), 0, y, x, nil)
			wantMade(t, "Make", m, e, modelMake(s, full(4), 0, y, x, nil), api.OK)
		}
	}
}

// A Key may be a term that is no Pub: a Box for it can't be made, and nobody opens it.
func TestKeysThatAreNoPubs(t *testing.T) {
	s := drawn()
	a := full(4)
	a[5].Key = secretOf(5)
	m := made(t, s, a, 0)
	if !slices.Equal(m.Path.Boxes[1], []int{0}) || len(m.Path.Boxes[0]) != 1 || m.Path.Boxes[0][0] == 0 {
		t.Errorf("%v", m.Path.Boxes)
	}
	x, e := kem.Apply(s, a, 3, knownTo(a, 3), 0, m.Path, nil)
	wantNone(t, "Apply", x, e, api.ErrKey)
	x, e = kem.Apply(s, a, 1, knownTo(a, 1), 0, m.Path, nil)
	if e != api.OK || x.Commit != m.Commit {
		t.Errorf("%v, %d", x, e)
	}
}

// Without a parent hash there is no path.
func TestNoParentHash(t *testing.T) {
	for _, spoil := range []func(v *api.Vertex){
		func(v *api.Vertex) { v.Sig = -1 },
		func(v *api.Vertex) { v.Hash = 1 << 20 },
	} {
		s := drawn()
		a := full(4)
		p := made(t, s, a, 0).Path
		spoil(&a[6])
		m, e := kem.Make(s, a, 0, newLeaf, start, nil)
		wantNone(t, "Make", m, e, api.ErrPath)
		for _, hash := range []int{p.Hash, 0, -1} {
			p.Hash = hash
			m, e = kem.Apply(s, a, 1, knownTo(a, 1), 0, p, nil)
			wantNone(t, "Apply", m, e, api.ErrPath)
		}
	}
}

// P6.3

func TestApply(t *testing.T) {
	s := drawn()
	a := full(4)
	m := made(t, s, a, 0)
	for j, want := range []string{1: "1:node(a99) 2:a3 3:node(path(a99))", 2: "3:node(path(a99)) 4:a5 5:a6", 3: "3:node(path(a99)) 5:a6 6:a7"} {
		if j == 0 {
			continue
		}
		x, e := kem.Apply(s, a, j, knownTo(a, j), 0, m.Path, nil)
		wantText(t, "Secrets", writtenSecrets(s, x.Secrets), want)
		if e != api.OK || x.Commit != m.Commit || !sameTree(x.Tree, m.Tree) || !samePath(x.Path, m.Path) {
			t.Errorf("%d: %v, %d", j, x, e)
		}
	}
}

// All who know what a member does come to the same, in whatever tree.
func TestApplyByEveryMember(t *testing.T) {
	s := drawn()
	for _, a := range [][]api.Vertex{full(2), full(8), mixed(), full(32)} {
		for _, i := range tree.Members(a) {
			m := made(t, s, a, i)
			for _, j := range tree.Members(a) {
				if j == i {
					continue
				}
				x, e := kem.Apply(s, a, j, knownTo(a, j), i, m.Path, nil)
				if e != api.OK || x.Commit != m.Commit || !sameTree(x.Tree, m.Tree) || !samePath(x.Path, m.Path) {
					t.Errorf("%d by %d: %v, %d", i, j, x, e)
				}
				for _, y := range x.Secrets {
					if x.Tree[y.Place].Key != s.Pub(y.Term) {
						t.Errorf("%d by %d: the secret of %d", i, j, y.Place)
					}
				}
			}
		}
	}
}

// What isn't above the sender's leaf stays, wherever else it is; what is above it goes, also where the path has no place.
func TestSecretsBehindApply(t *testing.T) {
	s := drawn()
	a := full(8)
	for _, x := range []int{2, 5, 6} {
		a[x] = blank()
	}
	// The path of 0 is 3 and 7: 1 is filtered out.
	list := everySecret(a)
	m := made(t, s, a, 0)
	x, e := kem.Apply(s, a, 5, list, 0, m.Path, nil)
	if e != api.ErrKey {
		t.Fatalf("%v, %d", x, e)
	}
	for k, y := range list {
		if y.Place == 11 {
			list[k].Term = secretOf(11)
		}
	}
	x, e = kem.Apply(s, a, 5, list, 0, m.Path, nil)
	if e != api.OK {
		t.Fatal(e)
	}
	want := "-2:a1 -1:a2 0:a3 2:a5 4:a7 5:a8 6:a9 7:node(path(a99)) 8:a11 9:a12 10:a13 11:a12 12:a15 13:a16 14:a17 15:a18 16:a19 17:a20"
	wantText(t, "Secrets", writtenSecrets(s, x.Secrets), want)
}

// j need not know its own leaf's secret, where it knows another place's for which there is a box.
func TestFirstKnownSecret(t *testing.T) {
	s := drawn()
	a := full(4)
	a[5].Late = []int{2, 3}
	m := made(t, s, a, 0)
	right := func(x int) kem.Secret { return kem.Secret{Place: x, Term: secretOf(x)} }
	wrong := func(x int) kem.Secret { return kem.Secret{Place: x, Term: other} }
	for _, c := range []struct {
		list []kem.Secret
		want api.Errno
	}{
		{[]kem.Secret{right(4)}, api.OK},
		{[]kem.Secret{right(5)}, api.OK},
		{[]kem.Secret{right(6)}, api.OK},
		{[]kem.Secret{wrong(4), right(5)}, api.OK},
		{[]kem.Secret{right(5), wrong(6)}, api.OK},
		{[]kem.Secret{right(4), wrong(6)}, api.OK},
		{[]kem.Secret{wrong(3), right(4)}, api.OK},
		{[]kem.Secret{right(4), wrong(5)}, api.ErrKey},
		{[]kem.Secret{wrong(5), right(6)}, api.ErrKey},
		{[]kem.Secret{wrong(4), right(6)}, api.ErrKey},
		{[]kem.Secret{wrong(6)}, api.ErrKey},
		{[]kem.Secret{{Place: 5}}, api.ErrKey},
		{[]kem.Secret{{Place: 5, Term: -1}, right(6)}, api.ErrKey},
		{[]kem.Secret{right(0), right(1), right(2), right(3)}, api.ErrKey},
		{nil, api.ErrKey},
	} {
		x, e := kem.Apply(s, a, 2, c.list, 0, m.Path, nil)
		want, _ := modelApply(s, a, 2, c.list, 0, m.Path, nil)
		wantMade(t, "Apply", x, e, want, c.want)
	}
}

func TestApplyByANewLeaf(t *testing.T) {
	s := drawn()
	a := full(4)
	a[5].Late = []int{3}
	fresh := []int{3}
	m := made(t, s, a, 0, fresh...)
	late := []kem.Secret{{Place: 6, Term: secretOf(6)}}
	x, e := kem.Apply(s, a, 3, late, 0, m.Path, fresh)
	wantNone(t, "the new leaf", x, e, api.ErrKey)
	x, e = kem.Apply(s, a, 2, knownTo(a, 2), 0, m.Path, fresh)
	if e != api.OK || x.Commit != m.Commit {
		t.Errorf("beside it: %v, %d", x, e)
	}
	x, e = kem.Apply(s, a, 2, knownTo(a, 2), 0, m.Path, nil)
	wantNone(t, "not told that it is new", x, e, api.ErrPath)
	x, e = kem.Apply(s, a, 2, knownTo(a, 2), 0, made(t, s, a, 0).Path, fresh)
	wantNone(t, "a box for the new one", x, e, api.ErrPath)
}

func TestApplyOfNoLeaf(t *testing.T) {
	s := drawn()
	p := made(t, s, mixed(), 2).Path
	for _, i := range append(noLeaves(8), 1, 5) {
		x, e := kem.Apply(s, mixed(), 3, knownTo(mixed(), 3), i, p, nil)
		wantNone(t, "a path of "+strconv.Itoa(i), x, e, api.ErrLeaf)
		x, e = kem.Apply(s, mixed(), i, knownTo(mixed(), 3), 2, p, nil)
		wantNone(t, "by "+strconv.Itoa(i), x, e, api.ErrLeaf)
		x, e = kem.Apply(s, mixed(), i, nil, i, kem.Path{}, nil)
		wantNone(t, "both "+strconv.Itoa(i), x, e, api.ErrLeaf)
	}
	for _, i := range []int{0, 2, 7} {
		x, e := kem.Apply(s, mixed(), i, knownTo(mixed(), i), i, made(t, s, mixed(), i).Path, nil)
		wantNone(t, "one's own", x, e, api.ErrLeaf)
	}
	x, e := kem.Apply(s, mixed(), 2, nil, 2, kem.Path{}, nil)
	wantNone(t, "ErrLeaf is named first", x, e, api.ErrLeaf)
}

type namedPath struct {
	name string
	p    kem.Path
}

// spoilt are a path's copies with one part changed, so that it doesn't fit the tree.
func spoilt(p kem.Path) []namedPath {
	var all []namedPath
	change := func(name string, f func(c *kem.Path)) {
		c := copyOf(p)
		f(&c)
		all = append(all, namedPath{name, c})
	}
	change("nothing", func(c *kem.Path) { *c = kem.Path{} })
	change("a key too few", func(c *kem.Path) { c.Keys = c.Keys[1:] })
	change("a key too many", func(c *kem.Path) { c.Keys = append(c.Keys, c.Keys[0]) })
	change("no keys", func(c *kem.Path) { c.Keys = nil })
	change("a list of boxes too few", func(c *kem.Path) { c.Boxes = c.Boxes[:len(c.Boxes)-1] })
	change("a list of boxes too many", func(c *kem.Path) { c.Boxes = append(c.Boxes, nil) })
	change("no boxes", func(c *kem.Path) { c.Boxes = nil })
	change("no Hash", func(c *kem.Path) { c.Hash = 0 })
	change("another Hash", func(c *kem.Path) { c.Hash = other })
	change("no Leaf", func(c *kem.Path) { c.Leaf = 0 })
	for k := range p.Boxes {
		at := " at " + strconv.Itoa(k)
		change("a box too many"+at, func(c *kem.Path) { c.Boxes[k] = append(c.Boxes[k], other) })
		if len(p.Boxes[k]) > 0 {
			change("a box too few"+at, func(c *kem.Path) { c.Boxes[k] = c.Boxes[k][1:] })
		}
		change("no key"+at, func(c *kem.Path) { c.Keys[k] = 0 })
		change("another key"+at, func(c *kem.Path) { c.Keys[k] = keyOf(0) })
	}
	return all
}

func copyOf(p kem.Path) kem.Path {
	c := kem.Path{Leaf: p.Leaf, Hash: p.Hash, Keys: append([]int(nil), p.Keys...)}
	for _, list := range p.Boxes {
		c.Boxes = append(c.Boxes, append([]int(nil), list...))
	}
	return c
}

func TestApplyOfPathsThatDoNotFit(t *testing.T) {
	s := drawn()
	a := mixed()
	for _, c := range spoilt(made(t, s, a, 2).Path) {
		for _, j := range []int{0, 3, 4, 7} {
			x, e := kem.Apply(s, a, j, knownTo(a, j), 2, c.p, nil)
			wantNone(t, c.name, x, e, api.ErrPath)
			x, e = kem.Apply(s, a, j, nil, 2, c.p, nil)
			wantNone(t, c.name+": ErrPath is named first", x, e, api.ErrPath)
		}
	}
	p := made(t, s, a, 2).Path
	for _, i := range []int{0, 4, 7} {
		x, e := kem.Apply(s, a, 3, knownTo(a, 3), i, p, nil)
		wantNone(t, "another one's path", x, e, api.ErrPath)
	}
	b := mixed()
	b[12].Client++
	x, e := kem.Apply(s, b, 3, knownTo(b, 3), 2, p, nil)
	wantNone(t, "another tree's path", x, e, api.ErrPath)
}

// What is asked for is what is a term when the call begins, not what bears a number that the call's own terms get.
func TestApplyOfPathsOfNoTerms(t *testing.T) {
	paths := func() (*term.Store, kem.Path) {
		s := drawn()
		return s, made(t, s, full(4), 0).Path
	}
	s, _ := paths()
	for _, wrong := range noTerms(s) {
		for _, change := range []func(p *kem.Path){
			func(p *kem.Path) { p.Leaf = wrong },
			func(p *kem.Path) { p.Hash = wrong },
			func(p *kem.Path) { p.Keys[0] = wrong },
			func(p *kem.Path) { p.Keys[1] = wrong },
		} {
			s, p := paths()
			change(&p)
			x, e := kem.Apply(s, full(4), 1, knownTo(full(4), 1), 0, p, nil)
			wantNone(t, "no term", x, e, api.ErrPath)
		}
	}
	// A path by hand, in a store that has its keys, but nothing of a parent hash yet.
	for hash := range 200 {
		s := drawn()
		keys := []int{keyOf(0), keyOf(1)}
		p := kem.Path{Leaf: keyOf(2), Hash: s.Len() + hash, Keys: keys, Boxes: [][]int{{1}, {1}}}
		x, e := kem.Apply(s, full(4), 1, knownTo(full(4), 1), 0, p, nil)
		wantNone(t, "a Hash that isn't made yet", x, e, api.ErrPath)
	}
}

// rehashed is a path with the parent hash that belongs to its keys, as a member that lies could send it.
func rehashed(t *testing.T, s *term.Store, a []api.Vertex, i int, p kem.Path) kem.Path {
	t.Helper()
	_, own := digest.Parents(s, a, i, p.Keys)
	if own == 0 {
		t.Fatal("no parent hash")
	}
	p.Hash = own
	return p
}

func TestApplyOfWrongKeys(t *testing.T) {
	s := drawn()
	a := full(8)
	right := made(t, s, a, 2) // path 5, 3, 7
	for at := range 3 {
		p := copyOf(right.Path)
		p.Keys[at] = keyOf(0)
		p = rehashed(t, s, a, 2, p)
		for k, j := range []int{3, 0, 6} { // who meets the path at its place k
			x, e := kem.Apply(s, a, j, knownTo(a, j), 2, p, nil)
			if at >= k {
				wantNone(t, "a wrong key that one can judge", x, e, api.ErrPath)
			} else if e != api.OK || x.Commit != right.Commit || !samePath(x.Path, p) || x.Tree[[]int{5, 3, 7}[at]].Key != keyOf(0) {
				t.Errorf("a wrong key below: %v, %d", x, e)
			}
			x, e = kem.Apply(s, a, j, nil, 2, p, nil)
			wantNone(t, "ErrKey is named ahead of wrong keys", x, e, api.ErrKey)
		}
	}
}

// Of the boxes that aren't one's own nothing is asked, but how many they are.
func TestApplyOfWrongBoxes(t *testing.T) {
	s := drawn()
	a := full(8)
	right := made(t, s, a, 2)
	boxes := []int{0, -1, 1 << 40, other, s.Text(""), s.Seal(secretOf(6), start), s.Box(keyOf(0), start)}
	for at := range 3 {
		for _, box := range boxes {
			p := copyOf(right.Path)
			p.Boxes[at][0] = box
			for k, j := range []int{3, 0, 6} {
				x, e := kem.Apply(s, a, j, knownTo(a, j), 2, p, nil)
				if at == k {
					wantNone(t, "a box that doesn't open", x, e, api.ErrKey)
				} else if e != api.OK || x.Commit != right.Commit || !samePath(x.Path, p) {
					t.Errorf("a box of others: %v, %d", x, e)
				}
			}
		}
		p := copyOf(right.Path)
		p.Boxes[at][0] = s.Box(keyOf([]int{6, 1, 11}[at]), other)
		j := []int{3, 0, 6}[at]
		x, e := kem.Apply(s, a, j, knownTo(a, j), 2, p, nil)
		wantNone(t, "another path secret", x, e, api.ErrPath)
	}
}

// Any term may be the new key of the leaf: nobody but its owner can tell.
func TestApplyOfAnyLeafKey(t *testing.T) {
	s := drawn()
	a := full(4)
	for _, key := range []int{other, s.Text(""), keyOf(0)} {
		p := made(t, s, a, 0).Path
		p.Leaf = key
		x, e := kem.Apply(s, a, 1, knownTo(a, 1), 0, p, nil)
		if e != api.OK || x.Tree[0].Key != key || x.Path.Leaf != key {
			t.Errorf("%v, %d", x, e)
		}
	}
}

// P6.4

func TestClimb(t *testing.T) {
	s := drawn()
	a := full(8)
	for _, c := range []struct {
		i, j int
		want string
	}{
		{0, 1, "1:node(a99) 3:node(path(a99)) 7:node(path(path(a99)))"},
		{0, 2, "3:node(a99) 7:node(path(a99))"},
		{0, 3, "3:node(a99) 7:node(path(a99))"},
		{0, 4, "7:node(a99)"},
		{7, 6, "7:node(path(path(a99))) 11:node(path(a99)) 13:node(a99)"},
		{7, 4, "7:node(path(a99)) 11:node(a99)"},
		{7, 0, "7:node(a99)"},
	} {
		wantText(t, "Climb", writtenSecrets(s, kem.Climb(s, a, c.i, c.j, start)), c.want)
	}
	for _, x := range []int{2, 5, 6} {
		a[x] = blank()
	}
	wantText(t, "over what is filtered", writtenSecrets(s, kem.Climb(s, a, 0, 2, start)), "3:node(a99) 7:node(path(a99))")
	wantText(t, "two", writtenSecrets(s, kem.Climb(s, full(2), 1, 0, start)), "1:node(a99)")
}

// From the path secret at which they meet, a new leaf comes to the sender's secrets.
func TestClimbToWhatWasMade(t *testing.T) {
	s := drawn()
	for _, a := range [][]api.Vertex{full(2), mixed(), full(32)} {
		for _, i := range tree.Members(a) {
			m := made(t, s, a, i)
			for _, j := range tree.Members(a) {
				if j == i {
					continue
				}
				k := slices.IndexFunc(stepsOf(a, i, nil), func(x step) bool { return x.at.has(j) })
				var want []kem.Secret
				for _, x := range m.Secrets {
					if slices.Contains(above(a, j), x.Place) {
						want = append(want, x)
					}
				}
				wantSecrets(t, "before the path", kem.Climb(s, a, i, j, nth(s, start, k)), want...)
				wantSecrets(t, "behind the path", kem.Climb(s, m.Tree, i, j, nth(s, start, k)), want...)
			}
		}
	}
}

func TestClimbOfNone(t *testing.T) {
	s := drawn()
	for _, i := range append(noLeaves(8), 1, 5, 3) {
		wantSecrets(t, "from "+strconv.Itoa(i), kem.Climb(s, mixed(), i, 3, start))
		wantSecrets(t, "to "+strconv.Itoa(i), kem.Climb(s, mixed(), 3, i, start))
		wantSecrets(t, "both "+strconv.Itoa(i), kem.Climb(s, mixed(), i, i, start))
	}
	wantSecrets(t, "one leaf", kem.Climb(s, full(1), 0, 0, start))
	for _, wrong := range noTerms(s) {
		wantSecrets(t, "from what is no term", kem.Climb(drawn(), mixed(), 2, 3, wrong))
	}
}
