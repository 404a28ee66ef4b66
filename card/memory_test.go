package card_test

import (
	"slices"
	"strconv"
	"testing"

	"conclave/api"
	"conclave/card"
	"conclave/term"
)

const mark = -77

// What is handed in stays as it was, its spare room too.
func TestWhoIsWhoStays(t *testing.T) {
	s := drawn()
	roomy := append(clients(s), mark, mark, mark)
	want := slices.Clone(roomy)
	for client := range 6 {
		c := card.Make(s, client, client+1, 11, 12, 5)
		card.Check(s, c, 5, roomy[:4])
		card.Check(s, c, 6, roomy[:4])
		card.Check(s, card.Card{Client: client}, 5, roomy[:4])
	}
	if !slices.Equal(roomy, want) {
		t.Errorf("%v, not %v", roomy, want)
	}
}

// everyCall is what all calls answer, of right and of wrong arguments.
func everyCall(s *term.Store) (terms []int, others []int) {
	right := card.Make(s, 1, 2, 3, 4, 5)
	who := []int{right.Init, right.Sig}
	spoilt := right
	spoilt.Until = 6
	for _, c := range []card.Card{
		right, spoilt, card.Make(s, 0, 3, 3, 3, -9), card.Make(s, 1, 2, 0, 4, 5), card.Make(s, 1, -2, 3, 4, 5), {},
	} {
		terms = append(terms, c.Init, c.Leaf, c.Sig, c.Mark, card.Body(s, c), card.Ref(s, c))
		others = append(others, c.Client, c.Until)
		for now := 4; now <= 7; now++ {
			others = append(others, int(card.Check(s, c, now, who)), int(card.Check(s, c, now, who[:1])))
		}
	}
	return terms, others
}

// The same is answered again, with nothing more made; and in another store the like, whatever was made there ahead.
func TestAnswersHangOnWhatIsGiven(t *testing.T) {
	s := drawn()
	first, others := everyCall(s)
	size := s.Len()
	again, same := everyCall(s)
	if !slices.Equal(first, again) || !slices.Equal(others, same) || s.Len() != size {
		t.Errorf("%v and %v, %v and %v, %d terms more", first, again, others, same, s.Len()-size)
	}
	other := drawn()
	for k := range 30 {
		card.Make(other, k, 1+k%draws, 1+k%7, 1+k%3, 30-k)
	}
	terms, like := everyCall(other)
	for k, x := range terms {
		wantTerm(t, "the answer "+strconv.Itoa(k), other, x, written(s, first[k]))
	}
	if !slices.Equal(others, like) {
		t.Errorf("%v, not %v", like, others)
	}
}

// Whether a card is right can be told in a store that another client filled, where what is signed must be made first.
func TestCheckMakesWhatItNeeds(t *testing.T) {
	s := drawn()
	mark := s.Sign(2, s.Hash("card", s.List([]int{s.Text("1"), s.Pub(3), s.Pub(4), s.Pub(2), s.Text("5")})))
	c := card.Card{Client: 1, Init: s.Pub(3), Leaf: s.Pub(4), Sig: s.Pub(2), Until: 5, Mark: mark}
	wantErrno(t, "of the same terms", card.Check(s, c, 5, clients(s)), api.OK)
	for _, until := range []int{4, 6, 77} {
		c.Until = until
		wantErrno(t, "of terms that are yet to be made", card.Check(s, c, 4, clients(s)), api.ErrCard)
	}
}

// A card's terms are made of what is handed in, never drawn: the next draw is still the one behind the last.
func TestNothingIsDrawn(t *testing.T) {
	s := drawn()
	everyCall(s)
	for x := draws + 1; x <= s.Len(); x++ {
		if n, _ := s.Get(x); n.Kind == api.Atom {
			t.Errorf("the term %d is an atom: %v", x, n)
		}
	}
	if n, _ := s.Get(s.Fresh()); n.A != draws+1 {
		t.Errorf("the next draw is the atom %d", n.A)
	}
}

// In a store that is full a call ends, too; what it answers is 0 or a term.
func TestFullStores(t *testing.T) {
	s := drawn()
	for k := 0; s.Len() < api.MaxTerms; k++ {
		if room := api.MaxTerms - s.Len(); room < 40 && room%7 == 0 {
			everyCall(s)
		}
		s.Text("fill " + strconv.Itoa(k))
	}
	terms, _ := everyCall(s)
	for k, x := range terms {
		if _, ok := s.Get(x); !ok && x != 0 {
			t.Errorf("the answer %d: %d", k, x)
		}
	}
}
