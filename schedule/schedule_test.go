package schedule_test

import (
	"math"
	"math/rand"
	"strconv"
	"strings"
	"testing"

	"conclave/api"
	"conclave/schedule"
	"conclave/term"
)

// A test's store begins with 20 atoms, which are the terms 1 to 20, and nothing else.

const draws = 20

func drawn() *term.Store {
	s := term.New()
	for range draws {
		s.Fresh()
	}
	return s
}

// noTerms are numbers that are no terms of drawn, among them those that a call's own terms would bear.
func noTerms() []int {
	all := []int{0, -1, -draws, math.MinInt, math.MaxInt, draws + 1000, 1 << 40}
	for k := range 40 {
		all = append(all, draws+1+k)
	}
	return all
}

// numbers are groups and epochs, also such as none has.
var numbers = [...]int{0, 1, 9, 10, 73, api.MaxNumber, -1, -12, math.MaxInt, math.MinInt}

// P7.1: the examples

func TestExamples(t *testing.T) {
	s := drawn()
	none := s.Text("")
	if got := schedule.Shared(s, nil); got != none {
		t.Errorf("Shared of none: %d", got)
	}
	if got := schedule.Shared(s, []int{1, 2}); got != s.Kdf("psk", s.Kdf("psk", none, 1), 2) {
		t.Errorf("Shared of two: %d", got)
	}
	e := schedule.Next(s, 3, 4, 5, 6)
	if x := schedule.Join(s, e.Joiner, 5, 6); x != e {
		t.Errorf("Join: %v, not %v", x, e)
	}
}

// A group's first two epochs, as a whole, made by the store's own calls.
func TestFirstEpochs(t *testing.T) {
	s := drawn()
	none, zero, one, group := s.Text(""), s.Text("0"), s.Text("1"), s.Text("5")
	x := schedule.Context(s, 5, 0, 7, none)
	if x != s.List([]int{group, zero, 7, none}) {
		t.Errorf("the first context: %d", x)
	}
	e := schedule.Next(s, 1, none, schedule.Shared(s, nil), x)
	if e.Joiner != s.Kdf("joiner", 1, none) || e.Member != s.Kdf("member", e.Joiner, none) || e.Secret != s.Kdf("epoch", e.Member, x) {
		t.Errorf("the first epoch: %v", e)
	}
	conf := schedule.Confirmation(s, e, none)
	if conf != s.Kdf("mac", s.Kdf("confirm", e.Secret, none), none) {
		t.Errorf("the first confirmation: %d", conf)
	}
	interim := schedule.Interim(s, none, conf)
	if interim != s.Hash("interim", s.List([]int{none, conf})) {
		t.Errorf("the first interim transcript: %d", interim)
	}
	confirmed := schedule.Confirmed(s, interim, 8, 9)
	if confirmed != s.Hash("confirmed", s.List([]int{interim, 8, 9})) {
		t.Errorf("the next confirmed transcript: %d", confirmed)
	}
	y := schedule.Context(s, 5, 1, 10, confirmed)
	if y != s.List([]int{group, one, 10, confirmed}) {
		t.Errorf("the next context: %d", y)
	}
	psks := schedule.Shared(s, []int{11})
	f := schedule.Next(s, e.Init, 12, psks, y)
	member := s.Kdf("member", s.Kdf("joiner", s.Kdf("init", e.Secret, none), 12), s.Kdf("psk", none, 11))
	if f.Member != member || f.Welcome != s.Kdf("welcome", member, none) || f.Secret != s.Kdf("epoch", member, y) {
		t.Errorf("the next epoch: %v", f)
	}
}

// P7.1: contexts and transcripts

func TestContext(t *testing.T) {
	s := drawn()
	none := s.Text("")
	for _, group := range numbers {
		for _, epoch := range numbers {
			what := "Context of " + strconv.Itoa(group) + ", " + strconv.Itoa(epoch)
			wantTerm(t, what, s, schedule.Context(s, group, epoch, 3, 4), modelContext(group, epoch, "a3", "a4"))
		}
	}
	wantTerm(t, "one term twice", s, schedule.Context(s, 1, 1, 3, 3), modelContext(1, 1, "a3", "a3"))
	wantTerm(t, "none", s, schedule.Context(s, 1, 2, none, none), modelContext(1, 2, text(""), text("")))
	wantTerm(t, "of hashes", s, schedule.Context(s, 1, 2, s.Hash("x", 3), s.Hash("y", 4)), modelContext(1, 2, "x#a3", "y#a4"))
}

func TestContextOfNoTerms(t *testing.T) {
	for _, wrong := range noTerms() {
		what := "with " + strconv.Itoa(wrong)
		wantZero(t, "the tree hash "+what, schedule.Context(drawn(), 7, 8, wrong, 1))
		wantZero(t, "the transcript "+what, schedule.Context(drawn(), 7, 8, 1, wrong))
		wantZero(t, "both "+what, schedule.Context(drawn(), 7, 8, wrong, wrong))
	}
}

func TestTranscripts(t *testing.T) {
	s := drawn()
	none := s.Text("")
	wantTerm(t, "Confirmed", s, schedule.Confirmed(s, 1, 2, 3), hash("confirmed", list("a1", "a2", "a3")))
	wantTerm(t, "Confirmed, turned round", s, schedule.Confirmed(s, 3, 2, 1), hash("confirmed", list("a3", "a2", "a1")))
	wantTerm(t, "Confirmed behind none", s, schedule.Confirmed(s, none, 2, 2), hash("confirmed", list(text(""), "a2", "a2")))
	wantTerm(t, "Interim", s, schedule.Interim(s, 1, 2), hash("interim", list("a1", "a2")))
	wantTerm(t, "Interim, turned round", s, schedule.Interim(s, 2, 1), hash("interim", list("a2", "a1")))
	wantTerm(t, "Interim behind none", s, schedule.Interim(s, none, none), hash("interim", list(text(""), text(""))))
	behind := schedule.Confirmed(s, schedule.Interim(s, 1, 2), 3, 4)
	wantTerm(t, "the one behind the other", s, behind, hash("confirmed", list(hash("interim", list("a1", "a2")), "a3", "a4")))
}

func TestTranscriptsOfNoTerms(t *testing.T) {
	for _, wrong := range noTerms() {
		what := strconv.Itoa(wrong)
		wantZero(t, "Confirmed behind "+what, schedule.Confirmed(drawn(), wrong, 2, 3))
		wantZero(t, "Confirmed of the content "+what, schedule.Confirmed(drawn(), 1, wrong, 3))
		wantZero(t, "Confirmed of the signature "+what, schedule.Confirmed(drawn(), 1, 2, wrong))
		wantZero(t, "Interim behind "+what, schedule.Interim(drawn(), wrong, 2))
		wantZero(t, "Interim of the confirmation "+what, schedule.Interim(drawn(), 1, wrong))
	}
}

// P7.1: what is shared beforehand

func TestShared(t *testing.T) {
	s := drawn()
	wantTerm(t, "nil", s, schedule.Shared(s, nil), text(""))
	wantTerm(t, "empty", s, schedule.Shared(s, []int{}), text(""))
	wantTerm(t, "one", s, schedule.Shared(s, []int{4}), modelShared("a4"))
	wantTerm(t, "two", s, schedule.Shared(s, []int{4, 5}), modelShared("a4", "a5"))
	wantTerm(t, "two, turned round", s, schedule.Shared(s, []int{5, 4}), modelShared("a5", "a4"))
	wantTerm(t, "one twice", s, schedule.Shared(s, []int{4, 4}), modelShared("a4", "a4"))
	wantTerm(t, "none as a secret", s, schedule.Shared(s, []int{s.Text(""), 4}), modelShared(text(""), "a4"))
	var many []int
	var written []string
	for k := range 5 * api.MaxPsks {
		many, written = append(many, 1+k%draws), append(written, "a"+strconv.Itoa(1+k%draws))
		wantTerm(t, strconv.Itoa(k+1)+" secrets", s, schedule.Shared(s, many), modelShared(written...))
	}
}

func TestSharedOfNoTerms(t *testing.T) {
	for _, wrong := range noTerms() {
		for at := range 4 {
			secrets := []int{1, 2, 3, 4}
			secrets[at] = wrong
			wantZero(t, strconv.Itoa(wrong)+" at "+strconv.Itoa(at), schedule.Shared(drawn(), secrets))
		}
		wantZero(t, strconv.Itoa(wrong)+" alone", schedule.Shared(drawn(), []int{wrong}))
	}
}

// P7.1: epochs

func TestNext(t *testing.T) {
	s := drawn()
	none := s.Text("")
	wantEpoch(t, "of atoms", s, schedule.Next(s, 1, 2, 3, 4), modelNext("a1", "a2", "a3", "a4"))
	wantEpoch(t, "turned round", s, schedule.Next(s, 4, 3, 2, 1), modelNext("a4", "a3", "a2", "a1"))
	wantEpoch(t, "one term throughout", s, schedule.Next(s, 5, 5, 5, 5), modelNext("a5", "a5", "a5", "a5"))
	wantEpoch(t, "none throughout", s, schedule.Next(s, none, none, none, none), modelNext(text(""), text(""), text(""), text("")))
	wantEpoch(t, "no path", s, schedule.Next(s, 1, none, none, 4), modelNext("a1", text(""), text(""), "a4"))
}

func TestJoin(t *testing.T) {
	s := drawn()
	none := s.Text("")
	wantEpoch(t, "of atoms", s, schedule.Join(s, 1, 2, 3), modelJoin("a1", "a2", "a3"))
	wantEpoch(t, "turned round", s, schedule.Join(s, 3, 2, 1), modelJoin("a3", "a2", "a1"))
	wantEpoch(t, "none throughout", s, schedule.Join(s, none, none, none), modelJoin(text(""), text(""), text("")))
	wantEpoch(t, "of another epoch's secret", s, schedule.Join(s, schedule.Next(s, 1, 2, 3, 4).Init, 5, 6), modelJoin(modelNext("a1", "a2", "a3", "a4")[initAt], "a5", "a6"))
}

// Whoever knows the joiner secret comes to the same epoch, where what is shared and the context are the same, and there alone.
func TestNextAndJoinMeet(t *testing.T) {
	s := drawn()
	for shared := 1; shared <= 4; shared++ {
		for context := 1; context <= 4; context++ {
			e := schedule.Next(s, 1, 2, shared, context)
			for k := 1; k <= 4; k++ {
				for n := 1; n <= 4; n++ {
					same := schedule.Join(s, e.Joiner, k, n) == e
					if same != (k == shared && n == context) {
						t.Errorf("Next with %d, %d and Join with %d, %d: %v", shared, context, k, n, same)
					}
				}
			}
		}
	}
}

// All that can be made is made, as it would be beside right numbers; what hangs on a wrong one is 0.
func TestEpochsOfNoTerms(t *testing.T) {
	next, join := modelNext("a1", "a2", "a3", "a4"), modelJoin("a1", "a3", "a4")
	for _, wrong := range noTerms() {
		for _, c := range []struct {
			what                          string
			init, commit, shared, context int
			from                          int
		}{
			{"init", wrong, 2, 3, 4, joinerAt},
			{"commit", 1, wrong, 3, 4, joinerAt},
			{"init and commit", wrong, wrong, 3, 4, joinerAt},
			{"shared", 1, 2, wrong, 4, memberAt},
			{"context", 1, 2, 3, wrong, secretAt},
			{"shared and context", 1, 2, wrong, wrong, memberAt},
			{"all", wrong, wrong, wrong, wrong, joinerAt},
		} {
			s := drawn()
			what := "Next, " + c.what + " " + strconv.Itoa(wrong)
			wantEpoch(t, what, s, schedule.Next(s, c.init, c.commit, c.shared, c.context), next.without(c.from))
		}
		for _, c := range []struct {
			what                    string
			joiner, shared, context int
			from                    int
		}{
			{"joiner", wrong, 3, 4, joinerAt},
			{"shared", 1, wrong, 4, memberAt},
			{"context", 1, 3, wrong, secretAt},
			{"all", wrong, wrong, wrong, joinerAt},
		} {
			s := drawn()
			what := "Join, " + c.what + " " + strconv.Itoa(wrong)
			wantEpoch(t, what, s, schedule.Join(s, c.joiner, c.shared, c.context), join.without(c.from))
		}
	}
}

// No two secrets are one, of one epoch and of epochs that differ in one thing; but the joiner secret hangs on init and commit alone, and the member secret and the welcome key don't hang on the context.
func TestSecretsAreApart(t *testing.T) {
	s := drawn()
	base := secretsOf(schedule.Next(s, 1, 2, 3, 4))
	for k, x := range base {
		for n, y := range base[:k] {
			if x == y {
				t.Errorf("%s and %s are one", names[n], names[k])
			}
		}
	}
	for _, c := range []struct {
		what string
		e    schedule.Epoch
		from int
	}{
		{"init", schedule.Next(s, 9, 2, 3, 4), joinerAt},
		{"commit", schedule.Next(s, 1, 9, 3, 4), joinerAt},
		{"shared", schedule.Next(s, 1, 2, 9, 4), memberAt},
		{"context", schedule.Next(s, 1, 2, 3, 9), secretAt},
		{"nothing", schedule.Next(s, 1, 2, 3, 4), len(base)},
	} {
		for k, x := range secretsOf(c.e) {
			if (x == base[k]) != (k < c.from) {
				t.Errorf("with another %s: %s is the same: %v", c.what, names[k], x == base[k])
			}
		}
	}
}

// P7.1: confirmations

func TestConfirmation(t *testing.T) {
	s := drawn()
	key := modelNext("a1", "a2", "a3", "a4")[confirmAt]
	e := schedule.Next(s, 1, 2, 3, 4)
	wantTerm(t, "of an atom", s, schedule.Confirmation(s, e, 5), kdf("mac", key, "a5"))
	wantTerm(t, "of none", s, schedule.Confirmation(s, e, s.Text("")), kdf("mac", key, text("")))
	confirmed := schedule.Confirmed(s, 6, 7, 8)
	wantTerm(t, "of a transcript", s, schedule.Confirmation(s, e, confirmed), kdf("mac", key, hash("confirmed", list("a6", "a7", "a8"))))
	wantTerm(t, "by the key alone", s, schedule.Confirmation(s, schedule.Epoch{Confirm: 9}, 5), kdf("mac", "a9", "a5"))
}

func TestConfirmationOfNoTerms(t *testing.T) {
	for _, wrong := range noTerms() {
		wantZero(t, "of the transcript "+strconv.Itoa(wrong), schedule.Confirmation(drawn(), schedule.Epoch{Confirm: 1}, wrong))
		wantZero(t, "by the key "+strconv.Itoa(wrong), schedule.Confirmation(drawn(), schedule.Epoch{Confirm: wrong}, 1))
	}
	wantZero(t, "of no epoch", schedule.Confirmation(drawn(), schedule.Epoch{}, 1))
	s := drawn()
	wantZero(t, "of an epoch without a context", schedule.Confirmation(s, schedule.Next(s, 1, 2, 3, 0), 1))
}

// P7.1: what is exported

func TestExport(t *testing.T) {
	s := drawn()
	exporter := modelNext("a1", "a2", "a3", "a4")[exporterAt]
	e := schedule.Next(s, 1, 2, 3, 4)
	texts := []string{"", "l", "c", "lc", "0", "a longer label, behind which more comes", "\x00", "\xff\xfe", "\u00fc\u4e16", strings.Repeat("x", api.MaxLabel+1), strings.Repeat("y", api.MaxText)}
	seen := map[int]string{}
	for _, label := range texts {
		for _, context := range texts {
			what := "Export of " + strconv.Quote(label) + " and " + strconv.Quote(context)
			got := schedule.Export(s, e, label, context)
			wantTerm(t, what, s, got, modelExport(exporter, label, context))
			if other, ok := seen[got]; ok {
				t.Errorf("%s is the same as %s", what, other)
			}
			seen[got] = what
		}
	}
	wantTerm(t, "by the exporter alone", s, schedule.Export(s, schedule.Epoch{Exporter: 9}, "l", "c"), modelExport("a9", "l", "c"))
}

func TestExportOfWhatIsTooLong(t *testing.T) {
	for _, length := range []int{api.MaxText + 1, 2 * api.MaxText, 1 << 20} {
		long := strings.Repeat("z", length)
		for _, c := range [][2]string{{long, ""}, {long, "c"}, {"", long}, {"l", long}, {long, long}} {
			s := drawn()
			what := strconv.Itoa(len(c[0])) + " and " + strconv.Itoa(len(c[1])) + " bytes"
			wantZero(t, what, schedule.Export(s, schedule.Epoch{Exporter: 1}, c[0], c[1]))
		}
	}
}

func TestExportOfNoTerms(t *testing.T) {
	for _, wrong := range noTerms() {
		wantZero(t, "by "+strconv.Itoa(wrong), schedule.Export(drawn(), schedule.Epoch{Exporter: wrong}, "l", "c"))
		wantZero(t, "by "+strconv.Itoa(wrong)+", of one text twice", schedule.Export(drawn(), schedule.Epoch{Exporter: wrong}, "l", "l"))
	}
	wantZero(t, "of no epoch", schedule.Export(drawn(), schedule.Epoch{}, "l", "c"))
	s := drawn()
	wantZero(t, "of an epoch without a context", schedule.Export(s, schedule.Next(s, 1, 2, 3, 0), "l", "c"))
}

// P7.1: groups that go on from epoch to epoch, against the chapter's words.
func TestGroupsThatLive(t *testing.T) {
	for seed := range 20 {
		r := rand.New(rand.NewSource(int64(seed)))
		s := drawn()
		atom := func() (int, string) { x := 1 + r.Intn(draws); return x, "a" + strconv.Itoa(x) }
		init, initText := atom()
		interim, interimText := s.Text(""), text("")
		for epoch := range 4 {
			content, contentText := atom()
			sig, sigText := atom()
			confirmed := schedule.Confirmed(s, interim, content, sig)
			confirmedText := hash("confirmed", list(interimText, contentText, sigText))
			tree, treeText := atom()
			context := schedule.Context(s, seed, epoch, tree, confirmed)
			contextText := modelContext(seed, epoch, treeText, confirmedText)
			var psks []int
			var pskTexts []string
			for range r.Intn(4) {
				x, xText := atom()
				psks, pskTexts = append(psks, x), append(pskTexts, xText)
			}
			commit, commitText := atom()
			e := schedule.Next(s, init, commit, schedule.Shared(s, psks), context)
			want := modelNext(initText, commitText, modelShared(pskTexts...), contextText)
			wantEpoch(t, "the epoch "+strconv.Itoa(epoch), s, e, want)
			conf := schedule.Confirmation(s, e, confirmed)
			confText := kdf("mac", want[confirmAt], confirmedText)
			wantTerm(t, "the confirmation", s, conf, confText)
			wantTerm(t, "what is exported", s, schedule.Export(s, e, "l", strconv.Itoa(epoch)), modelExport(want[exporterAt], "l", strconv.Itoa(epoch)))
			interim, interimText = schedule.Interim(s, confirmed, conf), hash("interim", list(confirmedText, confText))
			init, initText = e.Init, want[initAt]
		}
	}
}
