package heap_test

import (
	"math"
	"slices"
	"testing"

	"conclave/api"
	"conclave/heap"
)

var (
	rightSizes = []int{1, 2, 4, 8, 16, 32}
	wrongSizes = []int{0, -1, -2, -4, -32, 3, 5, 6, 7, 9, 12, 24, 31, 33, 48, 63, 64, 65, 1 << 40, math.MaxInt, math.MinInt, math.MinInt + 1}
)

// model is a tree of n leaves, built from the root down by the chapter's words on children, not by any arithmetic of parents.
type model struct {
	n, root     int
	level       map[int]int
	parent      map[int]int
	left, right map[int]int
}

func build(n int) model {
	m := model{n, n - 1, map[int]int{}, map[int]int{}, map[int]int{}, map[int]int{}}
	level := 0
	for 1<<level < n {
		level++
	}
	m.grow(m.root, level)
	return m
}

func (m model) grow(x, level int) {
	m.level[x] = level
	if level == 0 {
		return
	}
	half := 1 << (level - 1)
	m.left[x], m.right[x] = x-half, x+half
	for _, child := range []int{x - half, x + half} {
		m.parent[child] = x
		m.grow(child, level-1)
	}
}

func (m model) path(x int) []int {
	var path []int
	for x != m.root {
		x = m.parent[x]
		path = append(path, x)
	}
	return path
}

func (m model) sibling(x int) int {
	p := m.parent[x]
	if m.left[p] == x {
		return m.right[p]
	}
	return m.left[p]
}

func (m model) copath(x int) []int {
	var siblings []int
	for _, p := range m.path(x) {
		siblings = append(siblings, m.sibling(x))
		x = p
	}
	return siblings
}

// below is all that is below a place, itself too.
func (m model) below(y int) []int {
	if m.level[y] == 0 {
		return []int{y}
	}
	return slices.Concat([]int{y}, m.below(m.left[y]), m.below(m.right[y]))
}

// common is the place of the lowest level that has both below it.
func (m model) common(x, z int) int {
	best := m.root
	for y := range 2*m.n - 1 {
		if b := m.below(y); m.level[y] < m.level[best] && slices.Contains(b, x) && slices.Contains(b, z) {
			best = y
		}
	}
	return best
}

// noPlaces are numbers that are no places of a tree of n leaves, those at its ends and those that wrap round.
func noPlaces(n int) []int {
	return []int{-1, -2, -3, math.MinInt, math.MinInt + 1, 2*n - 1, 2 * n, 2*n + 1, 4*n - 1, 1 << 40, math.MaxInt, math.MaxInt - 1}
}

// noLeaves are numbers of no leaf, those too whose double wraps round to a place.
func noLeaves(n int) []int {
	return []int{-1, -2, math.MinInt, math.MinInt + 1, n, n + 1, 2*n - 2, 2 * n, math.MaxInt, math.MaxInt/2 + 1}
}

type answer struct {
	a, b int
	list []int
	err  api.Errno
}

func (a answer) nothing() bool {
	return a.a == 0 && a.b == 0 && len(a.list) == 0 && a.err == api.ErrIndex
}

// call is one that takes a place and answers an error.
type call struct {
	name string
	of   func(x, n int) answer
}

var (
	callParent   = call{"Parent", func(x, n int) answer { p, e := heap.Parent(x, n); return answer{a: p, err: e} }}
	callSibling  = call{"Sibling", func(x, n int) answer { p, e := heap.Sibling(x, n); return answer{a: p, err: e} }}
	callChildren = call{"Children", func(x, n int) answer { l, r, e := heap.Children(x, n); return answer{a: l, b: r, err: e} }}
	callPath     = call{"Path", func(x, n int) answer { p, e := heap.Path(x, n); return answer{list: p, err: e} }}
	callCopath   = call{"Copath", func(x, n int) answer { p, e := heap.Copath(x, n); return answer{list: p, err: e} }}

	calls = []call{callParent, callSibling, callChildren, callPath, callCopath}
)

// P3.1

func TestRight(t *testing.T) {
	for n := -70; n <= 200; n++ {
		if heap.Right(n) != slices.Contains(rightSizes, n) {
			t.Errorf("Right(%d): %v", n, heap.Right(n))
		}
	}
	for _, n := range wrongSizes {
		if heap.Right(n) {
			t.Errorf("Right(%d): true", n)
		}
	}
	if !heap.Right(api.MaxLeaves) || heap.Right(2*api.MaxLeaves) {
		t.Error("Right at the limit")
	}
}

func TestWrongSizeIsErrIndex(t *testing.T) {
	for _, n := range wrongSizes {
		if r, e := heap.Root(n); r != 0 || e != api.ErrIndex {
			t.Errorf("Root(%d): %d, %d", n, r, e)
		}
		for _, x := range []int{-1, 0, 1, 2, 3, n - 1, n, math.MaxInt} {
			for _, c := range calls {
				if a := c.of(x, n); !a.nothing() {
					t.Errorf("%s(%d, %d): %v", c.name, x, n, a)
				}
			}
			if c, e := heap.Common(x, 0, n); c != 0 || e != api.ErrIndex {
				t.Errorf("Common(%d, 0, %d): %d, %d", x, n, c, e)
			}
			if heap.Under(x, x, n) || heap.Under(0, x, n) {
				t.Errorf("Under(%d, %d, %d)", x, x, n)
			}
		}
	}
}

func TestNoPlaceIsErrIndex(t *testing.T) {
	for _, n := range rightSizes {
		for _, x := range noPlaces(n) {
			for _, c := range calls {
				if a := c.of(x, n); !a.nothing() {
					t.Errorf("%s(%d, %d): %v", c.name, x, n, a)
				}
			}
			for y := range 2*n - 1 {
				if heap.Under(x, y, n) || heap.Under(y, x, n) {
					t.Errorf("Under of %d and %d, %d", x, y, n)
				}
			}
			if heap.Under(x, x, n) {
				t.Errorf("Under(%d, %d, %d)", x, x, n)
			}
		}
	}
}

// P3.2

func TestRoot(t *testing.T) {
	for _, c := range []struct{ n, want int }{{1, 0}, {2, 1}, {4, 3}, {8, 7}, {16, 15}, {32, 31}} {
		if r, e := heap.Root(c.n); r != c.want || e != api.OK {
			t.Errorf("Root(%d): %d, %d, not %d", c.n, r, e, c.want)
		}
	}
}

func TestLevel(t *testing.T) {
	m := build(api.MaxLeaves)
	for x := range 2*api.MaxLeaves - 1 {
		if heap.Level(x) != m.level[x] {
			t.Errorf("Level(%d): %d, not %d", x, heap.Level(x), m.level[x])
		}
	}
	for _, c := range []struct{ x, want int }{
		{-1, 0}, {-2, 0}, {-3, 0}, {-1 << 40, 0}, {math.MinInt, 0}, {math.MinInt + 1, 0},
		{63, 6}, {64, 0}, {95, 5}, {127, 7}, {1<<40 - 1, 40}, {1 << 40, 0}, {math.MaxInt, 63}, {math.MaxInt - 1, 0},
	} {
		if heap.Level(c.x) != c.want {
			t.Errorf("Level(%d): %d, not %d", c.x, heap.Level(c.x), c.want)
		}
	}
}

func TestParentAndSibling(t *testing.T) {
	for _, n := range rightSizes {
		m := build(n)
		if len(m.level) != 2*n-1 {
			t.Fatalf("the model of %d leaves has %d places", n, len(m.level))
		}
		for x := range 2*n - 1 {
			parent, sibling := callParent.of(x, n), callSibling.of(x, n)
			if x == m.root {
				if !parent.nothing() || !sibling.nothing() {
					t.Errorf("of the root %d of %d: %v, %v", x, n, parent, sibling)
				}
				continue
			}
			if parent.a != m.parent[x] || parent.err != api.OK {
				t.Errorf("Parent(%d, %d): %v, not %d", x, n, parent, m.parent[x])
			}
			if sibling.a != m.sibling(x) || sibling.err != api.OK {
				t.Errorf("Sibling(%d, %d): %v, not %d", x, n, sibling, m.sibling(x))
			}
		}
	}
}

func TestChildren(t *testing.T) {
	for _, n := range rightSizes {
		m := build(n)
		for x := range 2*n - 1 {
			a := callChildren.of(x, n)
			if x%2 == 0 {
				if !a.nothing() {
					t.Errorf("Children(%d, %d), a leaf: %v", x, n, a)
				}
			} else if a.a != m.left[x] || a.b != m.right[x] || a.err != api.OK {
				t.Errorf("Children(%d, %d): %v, not %d, %d", x, n, a, m.left[x], m.right[x])
			}
		}
	}
}

// P3.3

func TestPathAndCopath(t *testing.T) {
	for _, n := range rightSizes {
		m := build(n)
		for x := range 2*n - 1 {
			path, e := heap.Path(x, n)
			if want := m.path(x); !slices.Equal(path, want) || e != api.OK {
				t.Errorf("Path(%d, %d): %v, %d, not %v", x, n, path, e, want)
			}
			copath, e := heap.Copath(x, n)
			if want := m.copath(x); !slices.Equal(copath, want) || e != api.OK {
				t.Errorf("Copath(%d, %d): %v, %d, not %v", x, n, copath, e, want)
			}
			if len(path) != len(copath) {
				t.Errorf("of %d and %d: a path of %d, a copath of %d", x, n, len(path), len(copath))
			}
		}
	}
}

func TestPathsAreNewMemory(t *testing.T) {
	for _, c := range []call{callPath, callCopath} {
		one, two := c.of(0, 8).list, c.of(0, 8).list
		kept := slices.Clone(two)
		one = one[:cap(one)]
		for i := range one {
			one[i] = -9
		}
		if !slices.Equal(two, kept) || !slices.Equal(c.of(0, 8).list, kept) {
			t.Errorf("%s answers memory that it answered before", c.name)
		}
	}
}

// P3.4

func TestCommon(t *testing.T) {
	for _, n := range rightSizes {
		m := build(n)
		for i := range n {
			for j := range n {
				c, e := heap.Common(i, j, n)
				if want := m.common(2*i, 2*j); c != want || e != api.OK {
					t.Errorf("Common(%d, %d, %d): %d, %d, not %d", i, j, n, c, e, want)
				}
			}
			if c, _ := heap.Common(i, i, n); c != 2*i {
				t.Errorf("Common(%d, %d, %d): %d, not the leaf's place", i, i, n, c)
			}
		}
	}
}

func TestCommonOfNoLeaf(t *testing.T) {
	for _, n := range rightSizes {
		for _, bad := range noLeaves(n) {
			if bad >= 0 && bad < n {
				continue
			}
			for _, pair := range [][2]int{{bad, 0}, {0, bad}, {bad, n - 1}, {n - 1, bad}, {bad, bad}} {
				if c, e := heap.Common(pair[0], pair[1], n); c != 0 || e != api.ErrIndex {
					t.Errorf("Common(%d, %d, %d): %d, %d", pair[0], pair[1], n, c, e)
				}
			}
		}
	}
}

func TestUnder(t *testing.T) {
	for _, n := range rightSizes {
		m := build(n)
		for y := range 2*n - 1 {
			below := m.below(y)
			for x := range 2*n - 1 {
				if want := slices.Contains(below, x); heap.Under(x, y, n) != want {
					t.Errorf("Under(%d, %d, %d): not %v", x, y, n, want)
				}
			}
		}
	}
}

// P3.1 to P3.4: the edges, and the chapter's examples, written out.

func TestTreeOfOneLeaf(t *testing.T) {
	if r, e := heap.Root(1); r != 0 || e != api.OK {
		t.Errorf("Root: %d, %d", r, e)
	}
	for _, c := range []call{callParent, callSibling, callChildren} {
		if a := c.of(0, 1); !a.nothing() {
			t.Errorf("%s: %v", c.name, a)
		}
	}
	for _, c := range []call{callPath, callCopath} {
		if a := c.of(0, 1); len(a.list) != 0 || a.err != api.OK {
			t.Errorf("%s: %v", c.name, a)
		}
	}
	if c, e := heap.Common(0, 0, 1); c != 0 || e != api.OK {
		t.Errorf("Common: %d, %d", c, e)
	}
	if !heap.Under(0, 0, 1) || heap.Under(0, 1, 1) || heap.Under(1, 0, 1) {
		t.Error("Under")
	}
}

func TestTreeOfMostLeaves(t *testing.T) {
	for _, c := range []struct {
		x            int
		path, copath []int
	}{
		{0, []int{1, 3, 7, 15, 31}, []int{2, 5, 11, 23, 47}},
		{62, []int{61, 59, 55, 47, 31}, []int{60, 57, 51, 39, 15}},
		{33, []int{35, 39, 47, 31}, []int{37, 43, 55, 15}},
		{31, nil, nil},
	} {
		if a := callPath.of(c.x, 32); !slices.Equal(a.list, c.path) || a.err != api.OK {
			t.Errorf("Path(%d): %v", c.x, a)
		}
		if a := callCopath.of(c.x, 32); !slices.Equal(a.list, c.copath) || a.err != api.OK {
			t.Errorf("Copath(%d): %v", c.x, a)
		}
	}
	if c, e := heap.Common(0, 31, 32); c != 31 || e != api.OK {
		t.Errorf("Common: %d, %d", c, e)
	}
	if c, e := heap.Common(31, 30, 32); c != 61 || e != api.OK {
		t.Errorf("Common: %d, %d", c, e)
	}
	if !heap.Under(62, 31, 32) || heap.Under(62, 15, 32) || heap.Under(63, 31, 32) {
		t.Error("Under")
	}
}

func TestExamples(t *testing.T) {
	if r, e := heap.Root(4); r != 3 || e != api.OK {
		t.Errorf("Root: %d, %d", r, e)
	}
	for _, c := range []struct {
		x    int
		want answer
	}{{0, answer{a: 1}}, {1, answer{a: 3}}, {3, answer{err: api.ErrIndex}}, {7, answer{err: api.ErrIndex}}} {
		if a := callParent.of(c.x, 4); a.a != c.want.a || a.err != c.want.err {
			t.Errorf("Parent(%d): %v", c.x, a)
		}
	}
	if a := callPath.of(0, 4); !slices.Equal(a.list, []int{1, 3}) || a.err != api.OK {
		t.Errorf("Path: %v", a)
	}
	if a := callCopath.of(0, 4); !slices.Equal(a.list, []int{2, 5}) || a.err != api.OK {
		t.Errorf("Copath: %v", a)
	}
	for j, want := range []int{0, 1, 3, 3} {
		if c, e := heap.Common(0, j, 4); c != want || e != api.OK {
			t.Errorf("Common(0, %d): %d, %d", j, c, e)
		}
	}
	if !heap.Under(2, 1, 4) || heap.Under(4, 1, 4) || heap.Right(3) {
		t.Error("Under or Right")
	}
}
