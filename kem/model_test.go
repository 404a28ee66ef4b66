package kem_test

import (
	"slices"
	"strconv"
	"strings"
	"testing"

	"conclave/api"
	"conclave/digest"
	"conclave/kem"
	"conclave/term"
)

// What the chapter's words say, over spans of leaves from one number up to another (without it): the vertex above a span is at the place lo + hi - 1.

type span struct{ lo, hi int }

func (a span) place() int     { return a.lo + a.hi - 1 }
func (a span) single() bool   { return a.hi-a.lo == 1 }
func (a span) has(i int) bool { return a.lo <= i && i < a.hi }

func (a span) halves() (span, span) {
	mid := (a.lo + a.hi) / 2
	return span{a.lo, mid}, span{mid, a.hi}
}

// split is the half with a leaf, and the other one.
func (a span) split(i int) (near, far span) {
	left, right := a.halves()
	if left.has(i) {
		return left, right
	}
	return right, left
}

func whole(t []api.Vertex) span { return span{0, (len(t) + 1) / 2} }

func modelResolution(t []api.Vertex, a span) []int {
	if v := t[a.place()]; v.Full {
		places := []int{a.place()}
		for _, i := range v.Late {
			places = append(places, 2*i)
		}
		return places
	}
	if a.single() {
		return nil
	}
	left, right := a.halves()
	return append(modelResolution(t, left), modelResolution(t, right)...)
}

// step is a place of a filtered path: the leaves below it, those below its child on the copath, and the places for which there are boxes.
type step struct {
	at, far span
	meant   []int
}

func (x step) place() int { return x.at.place() }

// stepsOf go from the root down and are turned round, for a path is told from below.
func stepsOf(t []api.Vertex, i int, fresh []int) []step {
	var steps []step
	for at := whole(t); !at.single(); {
		near, far := at.split(i)
		all := modelResolution(t, far)
		var meant []int
		for _, y := range all {
			if y%2 == 1 || !slices.Contains(fresh, y/2) {
				meant = append(meant, y)
			}
		}
		if len(all) > 0 {
			steps = append(steps, step{at, far, meant})
		}
		at = near
	}
	slices.Reverse(steps)
	return steps
}

// above are the places of a leaf's path.
func above(t []api.Vertex, i int) []int {
	var places []int
	for at := whole(t); !at.single(); at, _ = at.split(i) {
		places = append(places, at.place())
	}
	return places
}

func isFull(t []api.Vertex, i int) bool { return i >= 0 && i < (len(t)+1)/2 && t[2*i].Full }

// nth is the k-th path secret of a first one.
func nth(s *term.Store, start, k int) int {
	for range k {
		start = s.Kdf("path", start, s.Text(""))
	}
	return start
}

func node(s *term.Store, secret int) int { return s.Kdf("node", secret, s.Text("")) }

func modelTree(s *term.Store, t []api.Vertex, i int, p kem.Path) []api.Vertex {
	c := slices.Clone(t)
	for _, x := range above(t, i) {
		c[x] = api.Vertex{}
	}
	hashes, _ := digest.Parents(s, t, i, p.Keys)
	for k, x := range stepsOf(t, i, nil) {
		c[x.place()] = api.Vertex{Full: true, Key: p.Keys[k], Hash: hashes[k]}
	}
	c[2*i] = api.Vertex{Full: true, Key: p.Leaf, Client: t[2*i].Client, Sig: t[2*i].Sig, Hash: p.Hash}
	return c
}

// modelMake asks for what Make makes a path of.
func modelMake(s *term.Store, t []api.Vertex, i, leaf, start int, fresh []int) kem.Made {
	m := kem.Made{Path: kem.Path{Leaf: s.Pub(leaf)}, Secrets: []kem.Secret{{Place: 2 * i, Term: leaf}}}
	steps := stepsOf(t, i, fresh)
	for k, x := range steps {
		pk := nth(s, start, k)
		var boxes []int
		for _, y := range x.meant {
			boxes = append(boxes, s.Box(t[y].Key, pk))
		}
		m.Path.Keys = append(m.Path.Keys, s.Pub(node(s, pk)))
		m.Path.Boxes = append(m.Path.Boxes, boxes)
		m.Secrets = append(m.Secrets, kem.Secret{Place: x.place(), Term: node(s, pk)})
	}
	_, m.Path.Hash = digest.Parents(s, t, i, m.Path.Keys)
	m.Tree = modelTree(s, t, i, m.Path)
	m.Commit = nth(s, start, len(steps))
	sortByPlace(m.Secrets)
	return m
}

func sortByPlace(list []kem.Secret) {
	slices.SortFunc(list, func(a, b kem.Secret) int { return a.Place - b.Place })
}

// modelFits tells whether a path has all its parts, with the right parent hash.
func modelFits(s *term.Store, t []api.Vertex, i int, p kem.Path, steps []step) bool {
	if len(p.Keys) != len(steps) || len(p.Boxes) != len(steps) {
		return false
	}
	for k, x := range steps {
		if len(p.Boxes[k]) != len(x.meant) {
			return false
		}
	}
	for _, x := range append([]int{p.Leaf, p.Hash}, p.Keys...) {
		if _, ok := s.Get(x); !ok {
			return false
		}
	}
	_, own := digest.Parents(s, t, i, p.Keys)
	return own == p.Hash
}

func modelApply(s *term.Store, t []api.Vertex, j int, list []kem.Secret, i int, p kem.Path, fresh []int) (kem.Made, api.Errno) {
	if !isFull(t, i) || !isFull(t, j) || i == j {
		return kem.Made{}, api.ErrLeaf
	}
	steps := stepsOf(t, i, fresh)
	if !modelFits(s, t, i, p, steps) {
		return kem.Made{}, api.ErrPath
	}
	k := 0
	for !steps[k].far.has(j) {
		k++
	}
	pk, ok := modelOpened(s, list, steps[k].meant, p.Boxes[k])
	if !ok {
		return kem.Made{}, api.ErrKey
	}
	m := kem.Made{Path: p}
	for _, x := range list {
		if !slices.Contains(above(t, i), x.Place) {
			m.Secrets = append(m.Secrets, x)
		}
	}
	for l, x := range steps[k:] {
		secret := node(s, nth(s, pk, l))
		if s.Pub(secret) != p.Keys[k+l] {
			return kem.Made{}, api.ErrPath
		}
		m.Secrets = append(m.Secrets, kem.Secret{Place: x.place(), Term: secret})
	}
	sortByPlace(m.Secrets)
	m.Tree = modelTree(s, t, i, p)
	m.Commit = nth(s, pk, len(steps)-k)
	return m, api.OK
}

func modelOpened(s *term.Store, list []kem.Secret, meant, boxes []int) (int, bool) {
	for b, y := range meant {
		for _, x := range list {
			if x.Place == y {
				n, _ := s.Get(boxes[b])
				pub, _ := s.Get(n.A)
				return n.B, n.Kind == api.Box && pub == api.Node{Kind: api.Pub, A: x.Term}
			}
		}
	}
	return 0, false
}

func modelClimb(s *term.Store, t []api.Vertex, i, j, start int) []kem.Secret {
	if !isFull(t, i) || !isFull(t, j) || i == j {
		return nil
	}
	var list []kem.Secret
	for _, x := range stepsOf(t, i, nil) {
		if x.at.has(j) {
			list = append(list, kem.Secret{Place: x.place(), Term: node(s, nth(s, start, len(list)))})
		}
	}
	sortByPlace(list)
	return list
}

func modelTrim(t []api.Vertex, i int, list []kem.Secret) []kem.Secret {
	if i < 0 || i >= (len(t)+1)/2 {
		return nil
	}
	places := append(above(t, i), 2*i)
	var kept []kem.Secret
	for _, x := range list {
		if slices.Contains(places, x.Place) && t[x.Place].Full {
			kept = append(kept, x)
		}
	}
	return kept
}

// What is the same though one list is nil and the other one empty.

func sameVertex(a, b api.Vertex) bool {
	return a.Full == b.Full && a.Key == b.Key && a.Client == b.Client && a.Sig == b.Sig && a.Hash == b.Hash && slices.Equal(a.Late, b.Late)
}

func sameTree(a, b []api.Vertex) bool { return slices.EqualFunc(a, b, sameVertex) }

func samePath(a, b kem.Path) bool {
	return a.Leaf == b.Leaf && a.Hash == b.Hash && slices.Equal(a.Keys, b.Keys) && slices.EqualFunc(a.Boxes, b.Boxes, slices.Equal[[]int])
}

func sameMade(a, b kem.Made) bool {
	return samePath(a.Path, b.Path) && sameTree(a.Tree, b.Tree) && slices.Equal(a.Secrets, b.Secrets) && a.Commit == b.Commit
}

func wantMade(t *testing.T, what string, got kem.Made, e api.Errno, want kem.Made, wantErr api.Errno) {
	t.Helper()
	if e != wantErr || !sameMade(got, want) {
		t.Errorf("%s:\n got %v, %d\nwant %v, %d", what, got, e, want, wantErr)
	}
}

func wantNone(t *testing.T, what string, got kem.Made, e, want api.Errno) {
	t.Helper()
	wantMade(t, what, got, e, kem.Made{}, want)
}

func wantSecrets(t *testing.T, what string, got []kem.Secret, want ...kem.Secret) {
	t.Helper()
	if !slices.Equal(got, want) {
		t.Errorf("%s: %v, not %v", what, got, want)
	}
}

// What was made, as text: an atom as a and its number, all else by its name.

func written(s *term.Store, t int) string {
	n, ok := s.Get(t)
	switch {
	case !ok:
		return "nothing"
	case n.Kind == api.Atom:
		return "a" + strconv.Itoa(n.A)
	case n.Kind == api.Pub:
		return "pub(" + written(s, n.A) + ")"
	case n.Kind == api.Box:
		return "box(" + written(s, n.A) + " " + written(s, n.B) + ")"
	case n.Kind == api.Kdf && n.B == s.Text(""):
		return n.Label + "(" + written(s, n.A) + ")"
	}
	return "some other term"
}

func writtenList(s *term.Store, list []int) string {
	var parts []string
	for _, x := range list {
		parts = append(parts, written(s, x))
	}
	return "[" + strings.Join(parts, " ") + "]"
}

func writtenSecrets(s *term.Store, list []kem.Secret) string {
	var parts []string
	for _, x := range list {
		parts = append(parts, strconv.Itoa(x.Place)+":"+written(s, x.Term))
	}
	return strings.Join(parts, " ")
}

func wantText(t *testing.T, what, got, want string) {
	t.Helper()
	if got != want {
		t.Errorf("%s:\n got %s\nwant %s", what, got, want)
	}
}

// wantPath asks for a path's parts, its boxes place by place.
func wantPath(t *testing.T, s *term.Store, p kem.Path, leaf, keys string, boxes ...string) {
	t.Helper()
	wantText(t, "Leaf", written(s, p.Leaf), leaf)
	wantText(t, "Keys", writtenList(s, p.Keys), keys)
	if len(p.Boxes) != len(boxes) {
		t.Fatalf("%d lists of boxes, not %d", len(p.Boxes), len(boxes))
	}
	for k, list := range p.Boxes {
		wantText(t, "Boxes", writtenList(s, list), boxes[k])
	}
}
