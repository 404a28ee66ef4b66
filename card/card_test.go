package card_test

import (
	"math"
	"slices"
	"strconv"
	"testing"

	"conclave/api"
	"conclave/card"
	"conclave/term"
)

// A test's store begins with 20 atoms, which are the terms 1 to 20, and nothing else.

const draws = 20

func drawn() *term.Store {
	s := term.New()
	for range draws {
		s.Fresh()
	}
	return s
}

// noTermsOf are numbers that are no terms of a store, among them those that a call's own terms would bear.
func noTermsOf(s *term.Store) []int {
	all := []int{0, -1, -draws, math.MinInt, math.MaxInt, s.Len() + 1000, 1 << 40}
	for k := range 30 {
		all = append(all, s.Len()+1+k)
	}
	return all
}

func noTerms() []int { return noTermsOf(drawn()) }

// numbers are clients and times, also such as none has.
var numbers = [...]int{0, 1, 9, 10, 73, api.MaxNumber, -1, -12, math.MaxInt, math.MinInt}

// Of the clients 0 to 3 the secrets of the signature keys are the terms 1 to 4.
func clients(s *term.Store) []int { return []int{s.Pub(1), s.Pub(2), s.Pub(3), s.Pub(4)} }

// marked is a card with the mark that a secret makes of it, whatever its parts are.
func marked(s *term.Store, c card.Card, secret int) card.Card {
	c.Mark = s.Sign(secret, s.Hash("card", card.Body(s, c)))
	return c
}

// otherKinds is a term of each kind but Pub.
func otherKinds(s *term.Store) []int {
	return []int{
		7, s.Text(""), s.Text("x"), s.Pair(7, 8), s.List([]int{s.Pub(7)}), s.Hash("x", s.Pub(7)), s.Kdf("x", 7, 8),
		s.Seal(7, s.Pub(7)), s.Box(s.Pub(7), 8), s.Sign(7, 8),
	}
}

// The examples

func TestExamples(t *testing.T) {
	s := term.New()
	g, i, l := s.Fresh(), s.Fresh(), s.Fresh()
	c := card.Make(s, 0, g, i, l, 5)
	wantErrno(t, "at 5", card.Check(s, c, 5, []int{s.Pub(g)}), api.OK)
	wantErrno(t, "at 6", card.Check(s, c, 6, []int{s.Pub(g)}), api.ErrLate)
	for _, now := range numbers {
		wantErrno(t, "another one's", card.Check(s, c, now, []int{s.Pub(i)}), api.ErrCard)
	}
}

// A card as a whole, made by the store's own calls.
func TestWholeCard(t *testing.T) {
	s := drawn()
	body := s.List([]int{s.Text("2"), s.Pub(5), s.Pub(6), s.Pub(3), s.Text("40")})
	mark := s.Sign(3, s.Hash("card", body))
	want := card.Card{Client: 2, Init: s.Pub(5), Leaf: s.Pub(6), Sig: s.Pub(3), Until: 40, Mark: mark}
	c := card.Make(s, 2, 3, 5, 6, 40)
	if c != want || card.Body(s, c) != body || card.Ref(s, c) != s.Hash("ref", s.List([]int{body, mark})) {
		t.Errorf("%v, not %v; Body %d, not %d; Ref %d", c, want, card.Body(s, c), body, card.Ref(s, c))
	}
}

// P9.1: Make

func TestMake(t *testing.T) {
	s := drawn()
	for _, client := range numbers {
		for _, until := range numbers {
			what := "of " + strconv.Itoa(client) + " until " + strconv.Itoa(until)
			wantCard(t, what, s, card.Make(s, client, 1, 2, 3, until), modelMake(client, "a1", "a2", "a3", until))
		}
	}
	wantCard(t, "turned round", s, card.Make(s, 1, 3, 2, 1, 2), modelMake(1, "a3", "a2", "a1", 2))
	wantCard(t, "one secret throughout", s, card.Make(s, 1, 4, 4, 4, 1), modelMake(1, "a4", "a4", "a4", 1))
	wantCard(t, "secrets that are no atoms", s, card.Make(s, 1, s.Hash("x", 1), s.Pub(2), s.Text("y"), 1), modelMake(1, "x#a1", "pub(a2)", `"y"`, 1))
}

// All that can be made is made; Mark, which hangs on all, is 0 beside any secret that is no term.
func TestMakeOfNoTerms(t *testing.T) {
	for _, wrong := range noTerms() {
		for which := range 8 {
			secrets, texts := [3]int{1, 2, 3}, [3]string{"a1", "a2", "a3"}
			for k := range 3 {
				if which>>k&1 == 1 {
					secrets[k], texts[k] = wrong, nothing
				}
			}
			s := drawn()
			c := card.Make(s, 7, secrets[0], secrets[1], secrets[2], 8)
			wantCard(t, strconv.Itoa(wrong)+" in the places "+strconv.Itoa(which), s, c, modelMake(7, texts[0], texts[1], texts[2], 8))
		}
	}
}

// P9.1: Body and Ref

// cards are some whose parts are terms of all kinds, in other orders, and the same more than once.
func cards(s *term.Store) []card.Card {
	all := []card.Card{
		{Client: 7, Init: 1, Leaf: 2, Sig: 3, Until: 8, Mark: 4},
		{Client: 8, Init: 1, Leaf: 2, Sig: 3, Until: 8, Mark: 4},
		{Client: 7, Init: 5, Leaf: 2, Sig: 3, Until: 8, Mark: 4},
		{Client: 7, Init: 1, Leaf: 5, Sig: 3, Until: 8, Mark: 4},
		{Client: 7, Init: 1, Leaf: 2, Sig: 5, Until: 8, Mark: 4},
		{Client: 7, Init: 1, Leaf: 2, Sig: 3, Until: 7, Mark: 4},
		{Client: 7, Init: 1, Leaf: 2, Sig: 3, Until: 8, Mark: 5},
		{Client: 8, Init: 1, Leaf: 2, Sig: 3, Until: 7, Mark: 4},
		{Client: 7, Init: 2, Leaf: 1, Sig: 3, Until: 8, Mark: 4},
		{Client: 7, Init: 3, Leaf: 2, Sig: 1, Until: 8, Mark: 4},
		{Client: 7, Init: 1, Leaf: 3, Sig: 2, Until: 8, Mark: 4},
		{Init: 6, Leaf: 6, Sig: 6, Mark: 6},
		card.Make(s, 1, 2, 3, 4, 5),
	}
	for _, x := range otherKinds(s) {
		all = append(all, card.Card{Client: -3, Init: x, Leaf: x, Sig: x, Until: -4, Mark: x})
	}
	return all
}

func TestBodyAndRef(t *testing.T) {
	s := drawn()
	for k, c := range cards(s) {
		what := "the card " + strconv.Itoa(k)
		wantTerm(t, what+", Body", s, card.Body(s, c), modelOf(s, c).body())
		wantTerm(t, what+", Ref", s, card.Ref(s, c), modelOf(s, c).ref())
	}
	for _, client := range numbers {
		for _, until := range numbers {
			c := card.Card{Client: client, Init: 1, Leaf: 2, Sig: 3, Until: until, Mark: 4}
			what := "of " + strconv.Itoa(client) + " until " + strconv.Itoa(until)
			wantTerm(t, what+", Body", s, card.Body(s, c), modelOf(s, c).body())
			wantTerm(t, what+", Ref", s, card.Ref(s, c), modelOf(s, c).ref())
		}
	}
}

// Two cards have one name just if they are the same, and one body just if they are but for Mark.
func TestNamesAreApart(t *testing.T) {
	s := drawn()
	all := cards(s)
	for k, a := range all {
		for n, b := range all {
			if (card.Ref(s, a) == card.Ref(s, b)) != (a == b) {
				t.Errorf("the names of %d and %d, which are %v and %v", k, n, a, b)
			}
			c := b
			c.Mark = a.Mark
			if (card.Body(s, a) == card.Body(s, b)) != (a == c) {
				t.Errorf("the bodies of %d and %d, which are %v and %v", k, n, a, b)
			}
		}
	}
}

func TestBodyAndRefOfNoTerms(t *testing.T) {
	for _, wrong := range noTerms() {
		for k, change := range termParts {
			what := "the part " + strconv.Itoa(k) + " " + strconv.Itoa(wrong)
			c := card.Card{Client: 7, Init: 1, Leaf: 2, Sig: 3, Until: 8, Mark: 4}
			change(&c, wrong)
			s := drawn()
			wantZero(t, "Body, "+what, card.Body(s, c))
			s = drawn()
			wantZero(t, "Ref, "+what, card.Ref(s, c))
		}
		// The body has no mark, so it doesn't hang on it.
		s := drawn()
		c := card.Card{Client: 7, Init: 1, Leaf: 2, Sig: 3, Until: 8, Mark: wrong}
		wantTerm(t, "Body beside a Mark of "+strconv.Itoa(wrong), s, card.Body(s, c), modelOf(drawn(), c).body())
		wantZero(t, "Ref of a Mark of "+strconv.Itoa(wrong), card.Ref(drawn(), c))
	}
}

// termParts change the parts of a body that are terms.
var termParts = []func(c *card.Card, x int){
	func(c *card.Card, x int) { c.Init = x },
	func(c *card.Card, x int) { c.Leaf = x },
	func(c *card.Card, x int) { c.Sig = x },
}

// P9.2: right cards and late ones

func TestCheckOfRightCards(t *testing.T) {
	s := drawn()
	who := clients(s)
	for client := range who {
		for _, until := range numbers {
			c := card.Make(s, client, client+1, 11, 12, until)
			for _, now := range numbers {
				want := api.OK
				if until < now {
					want = api.ErrLate
				}
				wantErrno(t, "until "+strconv.Itoa(until)+" at "+strconv.Itoa(now), card.Check(s, c, now, who), want)
			}
		}
	}
	one := card.Make(s, 3, 4, 4, 4, 0)
	wantErrno(t, "one secret throughout", card.Check(s, one, 0, who), api.OK)
}

func TestCheckAroundTheTime(t *testing.T) {
	s := drawn()
	for _, until := range []int{-1, 0, 1, 100, api.MaxNumber} {
		c := card.Make(s, 1, 2, 11, 12, until)
		wantErrno(t, "ahead", card.Check(s, c, until-1, clients(s)), api.OK)
		wantErrno(t, "at its last time", card.Check(s, c, until, clients(s)), api.OK)
		wantErrno(t, "behind", card.Check(s, c, until+1, clients(s)), api.ErrLate)
	}
}

// P9.2: wrong cards. Each is asked for ahead of its last time and behind it, for ErrCard comes ahead of ErrLate.

func wantWrong(t *testing.T, what string, s *term.Store, c card.Card, who []int) {
	t.Helper()
	for _, now := range []int{math.MinInt, c.Until, math.MaxInt} {
		wantErrno(t, what+" at "+strconv.Itoa(now), card.Check(s, c, now, who), api.ErrCard)
	}
}

func TestCheckOfWhoIsNoClient(t *testing.T) {
	s := drawn()
	who := clients(s)
	for _, client := range []int{-1, -4, 4, 5, 100, math.MinInt, math.MaxInt} {
		wantWrong(t, "the client "+strconv.Itoa(client), s, card.Make(s, client, 1, 11, 12, 5), who)
	}
	wantWrong(t, "of no clients", s, card.Make(s, 0, 1, 11, 12, 5), nil)
	wantWrong(t, "of no clients", s, card.Make(s, 0, 1, 11, 12, 5), who[:0])
	// What stands behind the list's end counts for nothing.
	wantWrong(t, "behind the end", s, card.Make(s, 2, 3, 11, 12, 5), who[:2])
	wantErrno(t, "ahead of the end", card.Check(s, card.Make(s, 1, 2, 11, 12, 5), 5, who[:2]), api.OK)
}

// A card is of one client alone, though it is signed rightly with another one's key.
func TestCheckOfAnotherOnesKey(t *testing.T) {
	s := drawn()
	who := clients(s)
	for client := range who {
		for secret := 1; secret <= 5; secret++ {
			c := card.Make(s, client, secret, 11, 12, 5)
			if secret != client+1 {
				wantWrong(t, "signed with "+strconv.Itoa(secret), s, c, who)
			}
			c.Sig = who[client]
			if secret != client+1 {
				wantWrong(t, "signed with "+strconv.Itoa(secret)+", another Sig", s, c, who)
				wantWrong(t, "signed with "+strconv.Itoa(secret)+" over another Sig", s, marked(s, c, secret), who)
			}
			wantErrno(t, "signed anew", card.Check(s, marked(s, c, client+1), 5, who), api.OK)
		}
	}
}

// Where two clients have one key the mark still tells whose the card is.
func TestCheckOfSharedKeys(t *testing.T) {
	s := drawn()
	who := []int{s.Pub(1), s.Pub(1)}
	c := card.Make(s, 0, 1, 11, 12, 5)
	wantErrno(t, "the one's", card.Check(s, c, 5, who), api.OK)
	c.Client = 1
	wantWrong(t, "the one's as the other's", s, c, who)
	wantErrno(t, "the other's", card.Check(s, marked(s, c, 1), 5, who), api.OK)
}

// Init and Leaf are public keys, whatever the mark says.
func TestCheckOfOtherKinds(t *testing.T) {
	s := drawn()
	who := clients(s)
	for k, x := range otherKinds(s) {
		for n, change := range termParts {
			c := card.Make(s, 1, 2, 11, 12, 5)
			change(&c, x)
			what := "the kind " + strconv.Itoa(k) + " in the part " + strconv.Itoa(n)
			wantWrong(t, what, s, c, who)
			wantWrong(t, what+", signed", s, marked(s, c, 2), who)
		}
	}
	c := card.Make(s, 1, 2, 11, 12, 5)
	c.Init, c.Leaf = s.Pub(s.Pub(13)), s.Pub(s.Text("x"))
	wantErrno(t, "public keys of any terms", card.Check(s, marked(s, c, 2), 5, who), api.OK)
}

func TestCheckOfNoTerms(t *testing.T) {
	parts := append(slices.Clone(termParts), func(c *card.Card, x int) { c.Mark = x })
	made := func() (*term.Store, []int, card.Card) {
		s := drawn()
		return s, clients(s), card.Make(s, 1, 2, 11, 12, 5)
	}
	s, _, _ := made()
	for _, wrong := range noTermsOf(s) {
		for k, change := range parts {
			s, who, c := made()
			change(&c, wrong)
			wantWrong(t, strconv.Itoa(wrong)+" in the part "+strconv.Itoa(k), s, c, who)
			s, who, c = made()
			change(&c, wrong)
			who[1] = c.Sig
			wantWrong(t, strconv.Itoa(wrong)+" in the part "+strconv.Itoa(k)+", known", s, c, who)
		}
	}
	for _, wrong := range noTerms() {
		c := card.Card{Client: 0, Init: wrong, Leaf: wrong, Sig: wrong, Until: 5, Mark: wrong}
		wantWrong(t, strconv.Itoa(wrong)+" throughout", drawn(), c, []int{wrong})
	}
	wantWrong(t, "the zero card", drawn(), card.Card{}, []int{0})
}

func TestCheckOfWhatWasMadeOfNoTerms(t *testing.T) {
	for _, wrong := range noTerms() {
		s := drawn()
		wantWrong(t, "made with the Sig "+strconv.Itoa(wrong), s, card.Make(s, 0, wrong, 11, 12, 5), []int{0})
		s = drawn()
		wantWrong(t, "made with the Init "+strconv.Itoa(wrong), s, card.Make(s, 0, 1, wrong, 12, 5), clients(s))
		s = drawn()
		wantWrong(t, "made with the Leaf "+strconv.Itoa(wrong), s, card.Make(s, 0, 1, 11, wrong, 5), clients(s))
	}
}

// A key that is no public key has no signatures, though it is the one that is known.
func TestCheckOfKeysThatAreNone(t *testing.T) {
	s := drawn()
	for k, x := range otherKinds(s) {
		c := card.Card{Client: 0, Init: s.Pub(11), Leaf: s.Pub(12), Sig: x, Until: 5}
		for _, secret := range []int{x, 7, 1} {
			wantWrong(t, "the kind "+strconv.Itoa(k)+" as a key", s, marked(s, c, secret), []int{x})
		}
	}
}

// P9.2: wrong marks

func TestCheckOfWrongMarks(t *testing.T) {
	s := drawn()
	who := clients(s)
	c := card.Make(s, 1, 2, 11, 12, 5)
	body := card.Body(s, c)
	other := card.Make(s, 1, 2, 11, 13, 5)
	wrong := []int{
		0, -1, s.Len() + 1, math.MaxInt,
		2, body, s.Hash("card", body), s.Text(""), s.Pub(2),
		s.Sign(1, s.Hash("card", body)), s.Sign(s.Pub(2), s.Hash("card", body)),
		s.Sign(2, body), s.Sign(2, s.Hash("ref", body)), s.Sign(2, s.Hash("Card", body)), s.Sign(2, s.Hash("", body)),
		s.Sign(2, s.Hash("card", s.Hash("card", body))), s.Sign(2, s.Pair(body, s.Text(""))),
		s.Sign(2, s.Hash("card", s.List([]int{body, c.Mark}))), s.Sign(2, card.Ref(s, c)),
		s.Sign(s.Hash("card", body), 2), s.Pair(2, s.Hash("card", body)), s.Seal(2, s.Hash("card", body)),
		s.Kdf("", 2, s.Hash("card", body)), s.Box(s.Pub(2), s.Hash("card", body)), other.Mark,
	}
	for k, mark := range wrong {
		d := c
		d.Mark = mark
		wantWrong(t, "the mark "+strconv.Itoa(k), s, d, who)
	}
	wantErrno(t, "the right one", card.Check(s, c, 5, who), api.OK)
}

// No part of a card can be another one under the same mark.
func TestCheckOfSpoiltCards(t *testing.T) {
	s := drawn()
	who := []int{s.Pub(2), s.Pub(2), s.Pub(2)}
	c := card.Make(s, 1, 2, 11, 12, 5)
	for k, d := range []card.Card{
		{0, c.Init, c.Leaf, c.Sig, c.Until, c.Mark},
		{2, c.Init, c.Leaf, c.Sig, c.Until, c.Mark},
		{1, s.Pub(13), c.Leaf, c.Sig, c.Until, c.Mark},
		{1, c.Init, s.Pub(13), c.Sig, c.Until, c.Mark},
		{1, c.Leaf, c.Init, c.Sig, c.Until, c.Mark},
		{1, c.Init, c.Leaf, s.Pub(13), c.Until, c.Mark},
		{1, c.Init, c.Leaf, c.Sig, 4, c.Mark},
		{1, c.Init, c.Leaf, c.Sig, 6, c.Mark},
		{1, c.Init, c.Leaf, c.Sig, -5, c.Mark},
	} {
		wantWrong(t, "the change "+strconv.Itoa(k), s, d, who)
		if d.Sig == c.Sig {
			wantErrno(t, "signed anew", card.Check(s, marked(s, d, 2), d.Until, who), api.OK)
		}
	}
}

// Every mixture of some right and some wrong parts against the words.

func TestCheckOfMixtures(t *testing.T) {
	s := drawn()
	a, b, c := card.Make(s, 0, 1, 11, 12, 5), card.Make(s, 1, 2, 11, 12, 5), card.Make(s, 1, 2, 12, 11, 6)
	marks := []int{0, a.Mark, b.Mark, c.Mark, marked(s, b, 1).Mark}
	who := []int{s.Pub(1), s.Pub(2), s.Pub(2)}
	count := 0
	for _, client := range []int{-1, 0, 1, 2, 3} {
		for _, init := range []int{0, a.Init, a.Leaf, 11} {
			for _, leaf := range []int{0, a.Init, a.Leaf, 12} {
				for _, sig := range []int{0, a.Sig, b.Sig, 1} {
					for _, until := range []int{4, 5, 6} {
						for k, mark := range append(marks, -1) {
							d := card.Card{Client: client, Init: init, Leaf: leaf, Sig: sig, Until: until, Mark: mark}
							if k == len(marks) {
								d = marked(s, d, 2)
							}
							for _, now := range []int{5, 6} {
								want := modelCheck(modelOf(s, d), now, writtenAll(s, who))
								wantErrno(t, "a mixture", card.Check(s, d, now, who), want)
								if want != api.ErrCard {
									count++
								}
							}
						}
					}
				}
			}
		}
	}
	// So many bear a right mark, late or not: one for each of a, b and c, and of those that are marked anew two clients' with four pairs of keys for three times; each is asked for twice.
	if want := 2 * (3 + 2*4*3); count != want {
		t.Errorf("%d of the mixtures are right, not %d", count, want)
	}
}
