package tree_test

import (
	"slices"

	"conclave/api"
)

// What the chapter's words say, over spans of leaves from one number up to another (without it), not over the arithmetic of places: the vertex above a span of one leaf or more is at the place lo + hi - 1.

type span struct{ lo, hi int }

func (s span) place() int     { return s.lo + s.hi - 1 }
func (s span) single() bool   { return s.hi-s.lo == 1 }
func (s span) has(i int) bool { return s.lo <= i && i < s.hi }

func (s span) halves() (span, span) {
	mid := (s.lo + s.hi) / 2
	return span{s.lo, mid}, span{mid, s.hi}
}

// spans are all of a tree of n leaves, each at its place, as what is to the left stands ahead of it.
func spans(n int) []span {
	var all []span
	var walk func(s span)
	walk = func(s span) {
		if s.single() {
			all = append(all, s)
			return
		}
		left, right := s.halves()
		walk(left)
		all = append(all, s)
		walk(right)
	}
	walk(span{0, n})
	return all
}

type step struct{ parent, beside span }

// stepsTo are the parents above a leaf, from below, each with its child that isn't above the leaf.
func stepsTo(n, i int) []step {
	var steps []step
	at := span{0, n}
	for !at.single() {
		left, right := at.halves()
		if left.has(i) {
			steps, at = append(steps, step{at, right}), left
		} else {
			steps, at = append(steps, step{at, left}), right
		}
	}
	slices.Reverse(steps)
	return steps
}

func sizeOf(t []api.Vertex) int { return (len(t) + 1) / 2 }

func isBlank(v api.Vertex) bool { return sameVertex(v, api.Vertex{}) }

func modelCheck(t []api.Vertex) bool {
	if !slices.Contains([]int{1, 3, 7, 15, 31, 63}, len(t)) {
		return false
	}
	n := sizeOf(t)
	for x, s := range spans(n) {
		v := t[x]
		if !v.Full && !isBlank(v) || v.Full && s.single() && len(v.Late) > 0 {
			return false
		}
		if v.Full && !s.single() && (v.Client != 0 || v.Sig != 0) {
			return false
		}
		for k, i := range v.Late {
			if !s.has(i) || !t[2*i].Full || k > 0 && v.Late[k-1] >= i {
				return false
			}
		}
	}
	members := modelMembers(t)
	return len(members) > 0 && (n == 1 || members[len(members)-1] >= n/2)
}

func modelMembers(t []api.Vertex) []int {
	var members []int
	for i := 0; i < sizeOf(t); i++ {
		if t[2*i].Full {
			members = append(members, i)
		}
	}
	return members
}

func modelFind(t []api.Vertex, client int) (int, bool) {
	for i := 0; i < sizeOf(t); i++ {
		if t[2*i].Full && t[2*i].Client == client {
			return i, true
		}
	}
	return 0, false
}

func modelResolution(t []api.Vertex, s span) []int {
	if v := t[s.place()]; v.Full {
		places := []int{s.place()}
		for _, i := range v.Late {
			places = append(places, 2*i)
		}
		return places
	}
	if s.single() {
		return nil
	}
	left, right := s.halves()
	return append(modelResolution(t, left), modelResolution(t, right)...)
}

func modelFiltered(t []api.Vertex, i int) (path, copath []int) {
	for _, s := range stepsTo(sizeOf(t), i) {
		if len(modelResolution(t, s.beside)) > 0 {
			path = append(path, s.parent.place())
			copath = append(copath, s.beside.place())
		}
	}
	return path, copath
}

func modelLeaf(v api.Vertex) api.Vertex {
	v.Full, v.Late = true, nil
	return v
}

func modelAdd(t []api.Vertex, leaf api.Vertex) ([]api.Vertex, int, api.Errno) {
	c, n := deepCopy(t), sizeOf(t)
	members := modelMembers(t)
	if len(members) == 32 {
		return nil, 0, api.ErrRoom
	}
	if len(members) == n {
		for len(c) < 4*n-1 {
			c = append(c, api.Vertex{})
		}
		n *= 2
	}
	i := 0
	for slices.Contains(members, i) {
		i++
	}
	c[2*i] = modelLeaf(leaf)
	for _, s := range stepsTo(n, i) {
		if v := &c[s.parent.place()]; v.Full {
			v.Late = append(v.Late, i)
			slices.Sort(v.Late)
		}
	}
	return c, i, api.OK
}

func modelBlankAbove(t []api.Vertex, i int) []api.Vertex {
	c := deepCopy(t)
	for _, s := range stepsTo(sizeOf(t), i) {
		c[s.parent.place()] = api.Vertex{}
	}
	return c
}

func modelUpdate(t []api.Vertex, i int, leaf api.Vertex) ([]api.Vertex, api.Errno) {
	if !slices.Contains(modelMembers(t), i) {
		return nil, api.ErrLeaf
	}
	c := modelBlankAbove(t, i)
	c[2*i] = modelLeaf(leaf)
	return c, api.OK
}

func modelRemove(t []api.Vertex, i int) ([]api.Vertex, api.Errno) {
	members := modelMembers(t)
	if !slices.Contains(members, i) || len(members) == 1 {
		return nil, api.ErrLeaf
	}
	c := modelBlankAbove(t, i)
	c[2*i] = api.Vertex{}
	highest := slices.Max(modelMembers(c))
	n := 1
	for n <= highest {
		n *= 2
	}
	return c[:2*n-1], api.OK
}

func modelMerge(t []api.Vertex, i int, leaf api.Vertex, keys, hashes []int) ([]api.Vertex, api.Errno) {
	if !slices.Contains(modelMembers(t), i) {
		return nil, api.ErrLeaf
	}
	path, _ := modelFiltered(t, i)
	if len(path) != len(keys) || len(path) != len(hashes) {
		return nil, api.ErrIndex
	}
	c := modelBlankAbove(t, i)
	c[2*i] = modelLeaf(leaf)
	for k, x := range path {
		c[x] = api.Vertex{Full: true, Key: keys[k], Hash: hashes[k]}
	}
	return c, api.OK
}

func deepCopy(t []api.Vertex) []api.Vertex {
	c := make([]api.Vertex, len(t))
	for x, v := range t {
		c[x] = v
		c[x].Late = slices.Clone(v.Late)
	}
	return c
}

// sameVertex tells an empty Late and none not apart, as the document's rules do.
func sameVertex(a, b api.Vertex) bool {
	return a.Full == b.Full && a.Key == b.Key && a.Client == b.Client && a.Sig == b.Sig && a.Hash == b.Hash && slices.Equal(a.Late, b.Late)
}

func sameTree(a, b []api.Vertex) bool { return slices.EqualFunc(a, b, sameVertex) }
