package schedule_test

import (
	"slices"
	"strconv"
	"testing"

	"conclave/api"
	"conclave/schedule"
	"conclave/term"
)

// What is handed in stays as it was, its spare room too.
func TestWhatIsHandedInStays(t *testing.T) {
	const mark = -77
	s := drawn()
	for _, secrets := range [][]int{{}, {4, 5, 6}, {4, 0, 6}, {4, 5, draws + 1}} {
		roomy := append(slices.Clone(secrets), mark, mark, mark, mark)
		schedule.Shared(s, roomy[:len(secrets)])
		if !slices.Equal(roomy, append(slices.Clone(secrets), mark, mark, mark, mark)) {
			t.Errorf("%v: %v", secrets, roomy)
		}
	}
	e := schedule.Next(s, 1, 2, 3, 4)
	kept := e
	schedule.Confirmation(s, e, 5)
	schedule.Export(s, e, "l", "c")
	schedule.Next(s, e.Init, 6, 7, 8)
	schedule.Join(s, e.Joiner, 7, 8)
	if e != kept {
		t.Errorf("%v, not %v", e, kept)
	}
}

// everyCall is what all calls answer, of right and of wrong arguments.
func everyCall(s *term.Store) []int {
	answers := []int{
		schedule.Context(s, 7, 8, 1, 2), schedule.Context(s, 7, 8, 1, 0),
		schedule.Confirmed(s, 1, 2, 3), schedule.Confirmed(s, 1, 2, -3),
		schedule.Interim(s, 1, 2), schedule.Interim(s, 0, 2),
		schedule.Shared(s, []int{1, 2}), schedule.Shared(s, []int{1, -2}), schedule.Shared(s, nil),
	}
	for _, e := range []schedule.Epoch{
		schedule.Next(s, 1, 2, 3, 4), schedule.Next(s, 1, 2, 3, 0), schedule.Next(s, 1, 0, 3, 4),
		schedule.Join(s, 1, 2, 3), schedule.Join(s, 1, -1, 3), {},
	} {
		all := secretsOf(e)
		answers = append(answers, all[:]...)
		answers = append(answers, schedule.Confirmation(s, e, 5), schedule.Confirmation(s, e, 0))
		answers = append(answers, schedule.Export(s, e, "l", "c"), schedule.Export(s, e, "c", "l"))
	}
	return answers
}

// The same is answered again, with nothing more made; and in another store the like, whatever was made there ahead.
func TestAnswersHangOnWhatIsGiven(t *testing.T) {
	s := drawn()
	first := everyCall(s)
	size := s.Len()
	if again := everyCall(s); !slices.Equal(first, again) || s.Len() != size {
		t.Errorf("%v and %v, %d terms more", first, again, s.Len()-size)
	}
	other := drawn()
	for k := range 30 {
		schedule.Context(other, k, 30-k, 1, 2)
	}
	for k, x := range everyCall(other) {
		wantText(t, "the answer "+strconv.Itoa(k), written(other, x), written(s, first[k]))
	}
}

// Secrets of an epoch are derived, never drawn: the next draw is still the one behind the last.
func TestNothingIsDrawn(t *testing.T) {
	s := drawn()
	everyCall(s)
	for x := draws + 1; x <= s.Len(); x++ {
		if n, _ := s.Get(x); n.Kind == api.Atom {
			t.Errorf("the term %d is an atom: %v", x, n)
		}
	}
	if n, _ := s.Get(s.Fresh()); n.A != draws+1 {
		t.Errorf("the next draw is the atom %d", n.A)
	}
}

// In a store that is full a call ends, too; what it answers is 0 or a term.
func TestFullStores(t *testing.T) {
	s := drawn()
	for k := 0; s.Len() < api.MaxTerms; k++ {
		if room := api.MaxTerms - s.Len(); room < 40 && room%7 == 0 {
			everyCall(s)
		}
		s.Text("fill " + strconv.Itoa(k))
	}
	for k, x := range everyCall(s) {
		if _, ok := s.Get(x); !ok && x != 0 {
			t.Errorf("the answer %d: %d", k, x)
		}
	}
}
