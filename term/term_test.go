package term_test

import (
	"fmt"
	"math"
	"slices"
	"strconv"
	"strings"
	"testing"

	"conclave/api"
	"conclave/term"
)

// The terms that started makes, by their numbers.
const (
	atom = iota + 1
	text
	pub
	seal
	last = seal
)

// none are numbers that no term of started has.
var none = []int{0, -1, last + 1, math.MaxInt, math.MinInt}

// started is a store with an atom, a text, the atom's public key, and the text sealed with the atom.
func started(t *testing.T) *term.Store {
	t.Helper()
	s := term.New()
	made(t, s.Fresh(), atom)
	made(t, s.Text("a"), text)
	made(t, s.Pub(atom), pub)
	made(t, s.Seal(atom, text), seal)
	return s
}

func made(t *testing.T, got, want int) {
	t.Helper()
	if got != want {
		t.Errorf("term %d, not %d", got, want)
	}
}

// fill makes texts until the store has so many terms.
func fill(t *testing.T, s *term.Store, size int) {
	t.Helper()
	for i := 0; s.Len() < size; i++ {
		if s.Text("fill "+strconv.Itoa(i)) == 0 {
			t.Fatalf("no more than %d terms", s.Len())
		}
	}
}

// show tells a node in a short line.
func show(n api.Node) string {
	return fmt.Sprintf("{%d %.40q %d %d}", n.Kind, n.Label, n.A, n.B)
}

func refused(t *testing.T, s *term.Store, n api.Node, want api.Errno) {
	t.Helper()
	size := s.Len()
	if got, e := s.Make(n); got != 0 || e != want {
		t.Errorf("Make(%s): %d, %d; not 0, %d", show(n), got, e, want)
	}
	if s.Len() != size {
		t.Errorf("Make(%s) is refused, but made something", show(n))
	}
}

// right are nodes that may be made in the store started, none of them made there.
func right() []api.Node {
	label, long := strings.Repeat("l", api.MaxLabel), strings.Repeat("t", api.MaxText)
	return []api.Node{
		{Kind: api.Atom, A: 2},
		{Kind: api.Atom, A: api.MaxNumber},
		{Kind: api.Text},
		{Kind: api.Text, Label: long},
		{Kind: api.Text, Label: "\x00\xff"},
		{Kind: api.Pair, A: atom, B: text},
		{Kind: api.Pair, A: text, B: atom},
		{Kind: api.Pair, A: last, B: last},
		{Kind: api.Hash, A: text},
		{Kind: api.Hash, Label: "h", A: text},
		{Kind: api.Hash, Label: label, A: last},
		{Kind: api.Kdf, A: atom, B: text},
		{Kind: api.Kdf, Label: "h", A: atom, B: text},
		{Kind: api.Kdf, Label: label, A: last, B: last},
		{Kind: api.Pub, A: text},
		{Kind: api.Pub, A: pub},
		{Kind: api.Seal, A: text, B: atom},
		{Kind: api.Seal, A: last, B: last},
		{Kind: api.Box, A: pub, B: text},
		{Kind: api.Box, A: pub, B: last},
		{Kind: api.Sign, A: atom, B: text},
		{Kind: api.Sign, A: last, B: last},
	}
}

// wrong are nodes that nothing of the store started can be.
func wrong() []api.Node {
	label, long := strings.Repeat("l", api.MaxLabel+1), strings.Repeat("t", api.MaxText+1)
	list := []api.Node{
		{}, {Kind: -1}, {Kind: api.Sign + 1}, {Kind: math.MaxInt}, {Kind: 0, A: atom, B: text}, {Kind: api.Sign + 1, A: atom, B: text},
		{Kind: api.Atom}, {Kind: api.Atom, A: -1}, {Kind: api.Atom, A: api.MaxNumber + 1}, {Kind: api.Atom, A: math.MinInt}, {Kind: api.Atom, A: 1, B: atom}, {Kind: api.Atom, Label: "x", A: 1},
		{Kind: api.Text, Label: long}, {Kind: api.Text, Label: "x", A: atom}, {Kind: api.Text, Label: "x", B: atom}, {Kind: api.Text, A: -1},
		{Kind: api.Hash, Label: label, A: text}, {Kind: api.Hash, Label: "h", A: text, B: text}, {Kind: api.Hash, Label: "h", A: text, B: -1},
		{Kind: api.Kdf, Label: label, A: atom, B: text},
		{Kind: api.Pub, Label: "x", A: atom}, {Kind: api.Pub, A: atom, B: text},
		{Kind: api.Pair, Label: "x", A: atom, B: text}, {Kind: api.Seal, Label: "x", A: atom, B: text}, {Kind: api.Box, Label: "x", A: pub, B: text}, {Kind: api.Sign, Label: "x", A: atom, B: text},
		{Kind: api.Box, A: atom, B: text}, {Kind: api.Box, A: text, B: text}, {Kind: api.Box, A: seal, B: text},
	}
	for _, x := range none {
		for _, kind := range []int{api.Hash, api.Pub} {
			list = append(list, api.Node{Kind: kind, A: x})
		}
		for _, kind := range []int{api.Pair, api.Kdf, api.Seal, api.Box, api.Sign} {
			list = append(list, api.Node{Kind: kind, A: x, B: text}, api.Node{Kind: kind, A: pub, B: x})
		}
	}
	return list
}

// P1.1

func TestMakeNumbersInOrderAndOnce(t *testing.T) {
	s := started(t)
	for i, n := range right() {
		got, e := s.Make(n)
		if got != last+1+i || e != api.OK {
			t.Errorf("Make(%s): %d, %d; not %d", show(n), got, e, last+1+i)
		}
	}
	size := s.Len()
	for i, n := range right() {
		n.Label = strings.Clone(n.Label)
		got, e := s.Make(n)
		if got != last+1+i || e != api.OK {
			t.Errorf("again Make(%s): %d, %d; not %d", show(n), got, e, last+1+i)
		}
	}
	if s.Len() != size {
		t.Error("what was made before was made again")
	}
}

func TestMakeRefusesWrongNodes(t *testing.T) {
	s := started(t)
	for _, n := range wrong() {
		refused(t, s, n, api.ErrTerm)
	}
	made(t, s.Text("behind"), last+1)
}

func TestMakeAtTheLimit(t *testing.T) {
	s := started(t)
	fill(t, s, api.MaxTerms-1)
	made(t, s.Text("the last"), api.MaxTerms)
	refused(t, s, api.Node{Kind: api.Text, Label: "one more"}, api.ErrFull)
	refused(t, s, api.Node{Kind: api.Pair, A: api.MaxTerms, B: api.MaxTerms}, api.ErrFull)
	for _, n := range wrong() {
		if n.A != last+1 && n.B != last+1 { // which is a term now
			refused(t, s, n, api.ErrTerm)
		}
	}
	if got, e := s.Make(api.Node{Kind: api.Seal, A: atom, B: text}); got != seal || e != api.OK {
		t.Errorf("in a full store a term that there is: %d, %d", got, e)
	}
	made(t, s.Text("the last"), api.MaxTerms)
	made(t, s.Pair(atom, text), 0)
	made(t, s.Fresh(), 0)
}

func TestStoresAreApart(t *testing.T) {
	one, other := started(t), term.New()
	made(t, other.Len(), 0)
	made(t, other.Pub(atom), 0)
	made(t, other.Text("b"), 1)
	made(t, one.Text("a"), text)
}

// P1.2

func TestMakersAnswerWhatMakeTells(t *testing.T) {
	s := started(t)
	makers := []struct {
		got  int
		want api.Node
	}{
		{s.Text("t"), api.Node{Kind: api.Text, Label: "t"}},
		{s.Pair(atom, text), api.Node{Kind: api.Pair, A: atom, B: text}},
		{s.Hash("h", text), api.Node{Kind: api.Hash, Label: "h", A: text}},
		{s.Kdf("k", atom, text), api.Node{Kind: api.Kdf, Label: "k", A: atom, B: text}},
		{s.Pub(text), api.Node{Kind: api.Pub, A: text}},
		{s.Seal(text, atom), api.Node{Kind: api.Seal, A: text, B: atom}},
		{s.Box(pub, text), api.Node{Kind: api.Box, A: pub, B: text}},
		{s.Sign(atom, text), api.Node{Kind: api.Sign, A: atom, B: text}},
	}
	for i, m := range makers {
		made(t, m.got, last+1+i)
		if n, ok := s.Get(m.got); n != m.want || !ok {
			t.Errorf("%v, not %v", n, m.want)
		}
	}
}

func TestMakersRefuse(t *testing.T) {
	s := started(t)
	label := strings.Repeat("l", api.MaxLabel+1)
	for _, x := range none {
		got := []int{
			s.Pair(x, text), s.Pair(text, x), s.Hash("h", x), s.Kdf("k", x, text), s.Kdf("k", text, x), s.Pub(x),
			s.Seal(x, text), s.Seal(text, x), s.Box(x, text), s.Box(pub, x), s.Sign(x, text), s.Sign(text, x),
		}
		for i, n := range got {
			if n != 0 {
				t.Errorf("maker %d of %d: %d", i, x, n)
			}
		}
	}
	made(t, s.Text(strings.Repeat("t", api.MaxText+1)), 0)
	made(t, s.Hash(label, text), 0)
	made(t, s.Kdf(label, atom, text), 0)
	made(t, s.Box(text, text), 0)
	made(t, s.Len(), last)
}

func TestFreshCountsItsOwnAtoms(t *testing.T) {
	s := term.New()
	for i := range 5 {
		got := s.Fresh()
		made(t, got, i+1)
		if n, _ := s.Get(got); n != (api.Node{Kind: api.Atom, A: i + 1}) {
			t.Errorf("draw %d is %v", i+1, n)
		}
	}
	s.Make(api.Node{Kind: api.Atom, A: 100})
	if n, _ := s.Get(s.Fresh()); n.A != 6 {
		t.Errorf("behind an atom that Make made: %d", n.A)
	}
}

func TestFreshFindsWhatMakeMade(t *testing.T) {
	s := term.New()
	s.Text("a")
	two, _ := s.Make(api.Node{Kind: api.Atom, A: 2})
	one, _ := s.Make(api.Node{Kind: api.Atom, A: 1})
	made(t, s.Fresh(), one)
	made(t, s.Fresh(), two)
	made(t, s.Len(), 3)
	made(t, s.Fresh(), 4)
}

func TestFreshInAFullStore(t *testing.T) {
	s := term.New()
	one, _ := s.Make(api.Node{Kind: api.Atom, A: 1})
	s.Make(api.Node{Kind: api.Atom, A: 3})
	fill(t, s, api.MaxTerms)
	made(t, s.Fresh(), one)
	for range 3 {
		made(t, s.Fresh(), 0) // the number 2 each time: had it been used, the atom 3 would come
	}
}

func TestListMakesPairsFromTheLast(t *testing.T) {
	s := started(t)
	made(t, s.List([]int{atom, text, atom}), last+4)
	want := []api.Node{{Kind: api.Text}, {Kind: api.Pair, A: atom, B: last + 1}, {Kind: api.Pair, A: text, B: last + 2}, {Kind: api.Pair, A: atom, B: last + 3}}
	for i, w := range want {
		if n, _ := s.Get(last + 1 + i); n != w {
			t.Errorf("%d: %v, not %v", last+1+i, n, w)
		}
	}
	made(t, s.List([]int{text, atom}), last+3)
	made(t, s.List([]int{atom}), last+2)
	made(t, s.List(nil), last+1)
	made(t, s.List([]int{}), last+1)
	made(t, s.Text(""), last+1)
	made(t, s.Len(), last+4)
}

func TestListRefusesWhatIsNoTerm(t *testing.T) {
	for _, x := range none {
		for _, items := range [][]int{{x}, {x, atom}, {atom, x}, {atom, x, text}} {
			s := started(t)
			if got := s.List(items); got != 0 {
				t.Errorf("List(%v): %d", items, got)
			}
		}
	}
	// Numbers that would become terms while the list is made are no terms when it is asked for.
	for _, items := range [][]int{{last + 1}, {last + 2, atom}, {last + 3, atom, atom}} {
		s := started(t)
		if got := s.List(items); got != 0 {
			t.Errorf("List(%v): %d", items, got)
		}
	}
}

func TestListInAFullStore(t *testing.T) {
	s := started(t)
	fill(t, s, api.MaxTerms-2)
	made(t, s.List([]int{atom, text}), 0)
	s = started(t)
	fill(t, s, api.MaxTerms-2)
	made(t, s.List([]int{text}), api.MaxTerms)
	made(t, s.List([]int{text}), api.MaxTerms)
	made(t, s.List([]int{text, text}), 0)
	s = started(t)
	fill(t, s, api.MaxTerms)
	made(t, s.List(nil), 0)
	made(t, s.List(slices.Repeat([]int{text}, api.MaxTerms+1)), 0)
}

func TestListLeavesItsArgument(t *testing.T) {
	s := started(t)
	room := []int{atom, text, 77, 78}
	s.List(room[:2])
	if !slices.Equal(room, []int{atom, text, 77, 78}) {
		t.Errorf("%v", room)
	}
	got, _ := s.Items(s.List(room[:2]))
	room[0] = seal
	if !slices.Equal(got, []int{atom, text}) {
		t.Errorf("%v", got)
	}
}

// P1.3

func TestGetAndLen(t *testing.T) {
	s := term.New()
	made(t, s.Len(), 0)
	if n, ok := s.Get(1); n != (api.Node{}) || ok {
		t.Errorf("of nothing: %v, %v", n, ok)
	}
	s = started(t)
	made(t, s.Len(), last)
	want := []api.Node{{Kind: api.Atom, A: 1}, {Kind: api.Text, Label: "a"}, {Kind: api.Pub, A: atom}, {Kind: api.Seal, A: atom, B: text}}
	for i, w := range want {
		if n, ok := s.Get(i + 1); n != w || !ok {
			t.Errorf("%d: %v, %v", i+1, n, ok)
		}
	}
	for _, x := range none {
		if n, ok := s.Get(x); n != (api.Node{}) || ok {
			t.Errorf("%d: %v, %v", x, n, ok)
		}
	}
	for i, n := range right() {
		s.Make(n)
		made(t, s.Len(), last+1+i)
		if got, ok := s.Get(s.Len()); got != n || !ok {
			t.Errorf("%s: %s, %v", show(n), show(got), ok)
		}
	}
}

// P1.4

// everyKind is a store with a term of each kind; those of two parts all of the atom or its public key and the text.
func everyKind(t *testing.T) *term.Store {
	s := started(t)
	s.Box(pub, text)
	s.Sign(atom, text)
	s.Pair(atom, text)
	s.Kdf("k", atom, text)
	s.Pair(pub, text)
	s.Hash("h", atom)
	s.Pub(text)
	s.Pub(pub)
	return s
}

// odd are all terms of a store, and numbers that are none.
func odd(s *term.Store) []int {
	list := []int{-1, math.MaxInt, math.MinInt}
	for i := range s.Len() + 2 {
		list = append(list, i)
	}
	return list
}

func TestOpenAndUnbox(t *testing.T) {
	s := everyKind(t)
	size, box := s.Len(), last+1
	for _, key := range odd(s) {
		for _, x := range odd(s) {
			p, ok := s.Open(key, x)
			if want := key == atom && x == seal; ok != want || ok && p != text || !ok && p != 0 {
				t.Errorf("Open(%d, %d): %d, %v", key, x, p, ok)
			}
			p, ok = s.Unbox(key, x)
			if want := key == atom && x == box; ok != want || ok && p != text || !ok && p != 0 {
				t.Errorf("Unbox(%d, %d): %d, %v", key, x, p, ok)
			}
		}
	}
	made(t, s.Len(), size)
}

func TestOpenWithAPublicKey(t *testing.T) {
	s := started(t)
	x := s.Seal(pub, atom)
	if p, ok := s.Open(pub, x); p != atom || !ok {
		t.Errorf("sealed with a public key: %d, %v", p, ok)
	}
	if p, ok := s.Open(atom, x); p != 0 || ok {
		t.Errorf("opened by its secret: %d, %v", p, ok)
	}
}

func TestVerify(t *testing.T) {
	s := everyKind(t)
	size, sig := s.Len(), last+2
	for _, key := range odd(s) {
		for _, what := range odd(s) {
			for _, x := range odd(s) {
				if s.Verify(key, what, x) != (key == pub && what == text && x == sig) {
					t.Errorf("Verify(%d, %d, %d)", key, what, x)
				}
			}
		}
	}
	made(t, s.Len(), size)
}

func TestVerifyBeforeThereIsThePublicKey(t *testing.T) {
	s := term.New()
	secret, what := s.Fresh(), s.Text("a")
	sig := s.Sign(secret, what)
	for x := range 6 {
		if s.Verify(x, what, sig) {
			t.Errorf("by %d", x)
		}
	}
	made(t, s.Len(), 3)
	if !s.Verify(s.Pub(secret), what, sig) {
		t.Error("by its public key")
	}
}

// P1.5

func TestItems(t *testing.T) {
	s := started(t)
	empty := s.Text("")
	for _, items := range [][]int{nil, {atom}, {text}, {empty}, {atom, text}, {atom, empty}, {empty, empty, empty}, {s.List([]int{atom, text})}, {atom, s.List([]int{atom, text})}, {s.List([]int{atom}), s.List(nil)}} {
		x := s.List(items)
		size := s.Len()
		if got, ok := s.Items(x); !ok || !slices.Equal(got, items) {
			t.Errorf("%v: %v, %v", items, got, ok)
		}
		made(t, s.Len(), size)
	}
	// A list as the last item and as the rest look alike: there is the longer reading alone.
	if got, ok := s.Items(s.Pair(atom, s.List([]int{text, pub}))); !ok || !slices.Equal(got, []int{atom, text, pub}) {
		t.Errorf("%v, %v", got, ok)
	}
}

func TestItemsOfNoList(t *testing.T) {
	s := everyKind(t)
	for x := range s.Len() + 1 {
		notList(t, s, x)
		notList(t, s, s.Pair(atom, x))
		notList(t, s, s.Pair(atom, s.Pair(text, x)))
	}
	for _, x := range []int{-1, s.Len() + 1, math.MaxInt, math.MinInt} {
		notList(t, s, x)
	}
	empty := s.Text("")
	for _, x := range []int{s.Hash("", empty), s.Pub(empty), s.Seal(atom, empty), s.Box(pub, empty), s.Sign(atom, empty), s.Kdf("", atom, empty), s.Text("\x00")} {
		notList(t, s, x)
		notList(t, s, s.Pair(atom, x))
	}
}

func notList(t *testing.T, s *term.Store, x int) {
	t.Helper()
	if got, ok := s.Items(x); len(got) != 0 || ok {
		n, _ := s.Get(x)
		t.Errorf("Items of %d (%v): %v, %v", x, n, got, ok)
	}
}

func TestItemsAreNewMemory(t *testing.T) {
	s := started(t)
	x := s.List([]int{atom, text, pub})
	one, _ := s.Items(x)
	other, _ := s.Items(x)
	for i := range one[:cap(one)] {
		one[:cap(one)][i] = 99
	}
	again, _ := s.Items(x)
	if want := []int{atom, text, pub}; !slices.Equal(other, want) || !slices.Equal(again, want) {
		t.Errorf("%v, %v", other, again)
	}
}

func TestItemsOfTheLongestList(t *testing.T) {
	s := term.New()
	items := slices.Repeat([]int{s.Fresh()}, api.MaxTerms-2)
	x := s.List(items)
	made(t, x, api.MaxTerms)
	if got, ok := s.Items(x); !ok || !slices.Equal(got, items) {
		t.Errorf("%d items, %v", len(got), ok)
	}
}

// The chapter's examples, in their order.
func TestExamples(t *testing.T) {
	s := term.New()
	made(t, s.Fresh(), 1)
	made(t, s.Text("a"), 2)
	made(t, s.Pair(1, 2), 3)
	made(t, s.Pair(1, 2), 3)
	made(t, s.Pub(1), 4)
	made(t, s.Box(4, 2), 5)
	if p, ok := s.Unbox(1, 5); p != 2 || !ok {
		t.Errorf("Unbox: %d, %v", p, ok)
	}
	made(t, s.Box(2, 2), 0)
	refused(t, s, api.Node{Kind: api.Box, A: 2, B: 2}, api.ErrTerm)
	made(t, s.Seal(1, 3), 6)
	if p, ok := s.Open(1, 6); p != 3 || !ok {
		t.Errorf("Open: %d, %v", p, ok)
	}
	if p, ok := s.Open(2, 6); p != 0 || ok {
		t.Errorf("Open with another key: %d, %v", p, ok)
	}
	made(t, s.Sign(1, 2), 7)
	if !s.Verify(4, 2, 7) {
		t.Error("Verify")
	}
	made(t, s.List([]int{1, 2}), 10)
	if got, ok := s.Items(10); !ok || !slices.Equal(got, []int{1, 2}) {
		t.Errorf("Items: %v, %v", got, ok)
	}
	notList(t, s, 2)
}
