package schedule_test

import (
	"strconv"
	"strings"
	"testing"

	"conclave/api"
	"conclave/schedule"
	"conclave/term"
)

// What the chapter's words say, as text and not as terms: an atom as a and its number, a text in quotes, a list in brackets, what is derived as label(key second), a hash as label#of.

func written(s *term.Store, t int) string {
	n, ok := s.Get(t)
	if items, isList := s.Items(t); isList && len(items) > 0 {
		var parts []string
		for _, x := range items {
			parts = append(parts, written(s, x))
		}
		return list(parts...)
	}
	switch {
	case !ok:
		return "nothing"
	case n.Kind == api.Atom:
		return "a" + strconv.Itoa(n.A)
	case n.Kind == api.Text:
		return text(n.Label)
	case n.Kind == api.Kdf:
		return kdf(n.Label, written(s, n.A), written(s, n.B))
	case n.Kind == api.Hash:
		return hash(n.Label, written(s, n.A))
	}
	return "some other term"
}

func text(label string) string             { return strconv.Quote(label) }
func list(parts ...string) string          { return "[" + strings.Join(parts, " ") + "]" }
func kdf(label, key, second string) string { return label + "(" + key + " " + second + ")" }
func hash(label, of string) string         { return label + "#" + of }

// modelEpoch are an epoch's secrets in the order in which the chapter's types name them.
type modelEpoch [13]string

var names = modelEpoch{
	"Joiner", "Member", "Welcome", "Secret", "Init", "Data", "Ratchets",
	"Exporter", "External", "Confirm", "Membership", "Resumption", "Authenticator",
}

const (
	joinerAt = iota
	memberAt
	welcomeAt
	secretAt
	initAt
	exporterAt = 7
	confirmAt  = 9
)

func modelNext(init, commit, shared, context string) modelEpoch {
	return modelJoin(kdf("joiner", init, commit), shared, context)
}

func modelJoin(joiner, shared, context string) modelEpoch {
	member := kdf("member", joiner, shared)
	secret := kdf("epoch", member, context)
	m := modelEpoch{joiner, member, kdf("welcome", member, text("")), secret}
	labels := "init data ratchets exporter external confirm membership resumption authenticator"
	for k, label := range strings.Fields(labels) {
		m[initAt+k] = kdf(label, secret, text(""))
	}
	return m
}

// without is an epoch of which what stands from a place on can't be made.
func (m modelEpoch) without(from int) modelEpoch {
	for k := from; k < len(m); k++ {
		m[k] = "nothing"
	}
	return m
}

func modelShared(secrets ...string) string {
	sofar := text("")
	for _, x := range secrets {
		sofar = kdf("psk", sofar, x)
	}
	return sofar
}

func modelContext(group, epoch int, tree, transcript string) string {
	return list(text(strconv.Itoa(group)), text(strconv.Itoa(epoch)), tree, transcript)
}

func modelExport(exporter, label, context string) string {
	return kdf("export", kdf("exported", exporter, text(label)), text(context))
}

func secretsOf(e schedule.Epoch) [13]int {
	return [13]int{
		e.Joiner, e.Member, e.Welcome, e.Secret, e.Init, e.Data, e.Ratchets,
		e.Exporter, e.External, e.Confirm, e.Membership, e.Resumption, e.Authenticator,
	}
}

func wantText(t *testing.T, what, got, want string) {
	t.Helper()
	if got != want {
		t.Errorf("%s:\n got %s\nwant %s", what, got, want)
	}
}

func wantTerm(t *testing.T, what string, s *term.Store, got int, want string) {
	t.Helper()
	wantText(t, what, written(s, got), want)
}

// wantEpoch asks that what can't be made is 0, too: any other number that is no term reads as nothing, as 0 does.
func wantEpoch(t *testing.T, what string, s *term.Store, e schedule.Epoch, want modelEpoch) {
	t.Helper()
	for k, x := range secretsOf(e) {
		wantTerm(t, what+", "+names[k], s, x, want[k])
		if want[k] == "nothing" {
			wantZero(t, what+", "+names[k], x)
		}
	}
}

func wantZero(t *testing.T, what string, got int) {
	t.Helper()
	if got != 0 {
		t.Errorf("%s: the term %d, not 0", what, got)
	}
}
