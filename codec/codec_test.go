package codec_test

import (
	"math"
	"math/rand"
	"reflect"
	"slices"
	"strings"
	"testing"
	"unsafe"

	"conclave/api"
	"conclave/codec"
)

const greatest = 1<<62 - 1

// writes asks that a value is written as these bytes, and read back from them.
func writes[T any](t *testing.T, c codec.Codec[T], v T, want string) {
	t.Helper()
	if s, e := codec.Encode(c, v); s != want || e != api.OK {
		t.Errorf("Encode(%.60v): %.60q, %d, not %.60q", v, s, e, want)
	}
	if got, e := codec.Decode(c, want); !reflect.DeepEqual(got, v) || e != api.OK {
		t.Errorf("Decode(%.60q): %.60v, %d, not %.60v", want, got, e, v)
	}
}

// unwritten asks that a value is out of range.
func unwritten[T any](t *testing.T, c codec.Codec[T], v T) {
	t.Helper()
	if s, e := codec.Encode(c, v); s != "" || e != api.ErrRange {
		t.Errorf("Encode(%.60v): %.60q, %d, not ErrRange", v, s, e)
	}
}

// unread asks that bytes are refused by this error, with the zero value.
func unread[T any](t *testing.T, c codec.Codec[T], s string, want api.Errno) {
	t.Helper()
	var zero T
	if v, e := codec.Decode(c, s); !reflect.DeepEqual(v, zero) || e != want {
		t.Errorf("Decode(%.60q): %.60v, %d, not the zero value and %d", s, v, e, want)
	}
}

// P2.1, P2.2: numbers, at both ends of each length.

var numbers = []struct {
	n int
	s string
}{
	{0, "\x00"},
	{1, "\x01"},
	{63, "\x3f"},
	{64, "\x40\x40"},
	{255, "\x40\xff"},
	{256, "\x41\x00"},
	{16383, "\x7f\xff"},
	{16384, "\x80\x00\x40\x00"},
	{0x12345678, "\x92\x34\x56\x78"},
	{1<<30 - 1, "\xbf\xff\xff\xff"},
	{1 << 30, "\xc0\x00\x00\x00\x40\x00\x00\x00"},
	{0x123456789abcdef0, "\xd2\x34\x56\x78\x9a\xbc\xde\xf0"},
	{greatest, "\xff\xff\xff\xff\xff\xff\xff\xff"},
}

func TestNumber(t *testing.T) {
	for _, x := range numbers {
		writes(t, codec.Number(), x.n, x.s)
	}
}

func TestNumberOutOfRange(t *testing.T) {
	for _, n := range []int{-1, -64, math.MinInt, greatest + 1, math.MaxInt} {
		unwritten(t, codec.Number(), n)
	}
}

func TestNumberThatEndsEarly(t *testing.T) {
	for _, x := range numbers {
		for i := range len(x.s) {
			unread(t, codec.Number(), x.s[:i], api.ErrEnd)
		}
	}
}

// A number is judged when all its bytes are there: this one would be too long, but ends ahead of that.
func TestNumberThatEndsEarlyAndIsTooLong(t *testing.T) {
	for _, s := range []string{"\x40", "\x80\x00\x00", "\xc0\x00\x00\x00\x00\x00\x00"} {
		unread(t, codec.Number(), s, api.ErrEnd)
	}
}

func TestNumberWithMoreBytesThanItNeeds(t *testing.T) {
	for _, s := range []string{
		"\x40\x00", "\x40\x3f",
		"\x80\x00\x00\x00", "\x80\x00\x00\x3f", "\x80\x00\x3f\xff",
		"\xc0\x00\x00\x00\x00\x00\x00\x00", "\xc0\x00\x00\x00\x00\x00\x40\x00", "\xc0\x00\x00\x00\x3f\xff\xff\xff",
	} {
		unread(t, codec.Number(), s, api.ErrForm)
	}
}

func TestSomethingBehind(t *testing.T) {
	for _, x := range numbers {
		unread(t, codec.Number(), x.s+"\x00", api.ErrForm)
	}
	unread(t, codec.Flag(), "\x01\x01", api.ErrForm)
	unread(t, codec.Text(9), "\x01ab", api.ErrForm)
	unread(t, codec.ListOf(codec.Number(), 9), "\x01\x05\x06", api.ErrForm)
	unread(t, codec.Record[struct{}](), "\x00", api.ErrForm)
}

// Of all texts of one and two bytes just those are numbers that Encode writes.
func TestAllShortNumbers(t *testing.T) {
	for i := range 1 << 16 {
		for _, s := range []string{string([]byte{byte(i)}), string([]byte{byte(i >> 8), byte(i)})} {
			n, e := codec.Decode(codec.Number(), s)
			if w, _ := codec.Encode(codec.Number(), n); (w == s) != (e == api.OK) {
				t.Fatalf("Decode(%q): %d, %d; that is written %q", s, n, e, w)
			}
		}
	}
}

func TestFlag(t *testing.T) {
	writes(t, codec.Flag(), false, "\x00")
	writes(t, codec.Flag(), true, "\x01")
	unread(t, codec.Flag(), "", api.ErrEnd)
	unread(t, codec.Flag(), "\x40", api.ErrEnd)
	for _, s := range []string{"\x02", "\x3f", "\x40\x40", "\x40\x01", "\xff\xff\xff\xff\xff\xff\xff\xff", "\x02\x00"} {
		unread(t, codec.Flag(), s, api.ErrForm)
	}
}

func TestText(t *testing.T) {
	c := codec.Text(70)
	writes(t, c, "", "\x00")
	writes(t, c, "ab", "\x02ab")
	writes(t, c, "\xff\x00\xc3", "\x03\xff\x00\xc3")
	writes(t, c, strings.Repeat("x", 63), "\x3f"+strings.Repeat("x", 63))
	writes(t, c, strings.Repeat("x", 70), "\x40\x46"+strings.Repeat("x", 70))
	unwritten(t, c, strings.Repeat("x", 71))
	// Bytes count, not runes.
	unwritten(t, codec.Text(3), "éé")
	writes(t, codec.Text(4), "éé", "\x04éé")
}

func TestTextThatIsRefused(t *testing.T) {
	c := codec.Text(3)
	for _, s := range []string{"", "\x40", "\x01", "\x03ab"} {
		unread(t, c, s, api.ErrEnd)
	}
	unread(t, c, "\x40\x02ab", api.ErrForm)
	// The number is told ahead of what follows it, or doesn't.
	for _, s := range []string{"\x04", "\x04abcd", "\x04abcde", "\xff\xff\xff\xff\xff\xff\xff\xff"} {
		unread(t, c, s, api.ErrRange)
	}
}

func TestListOf(t *testing.T) {
	c := codec.ListOf(codec.Number(), 9)
	writes(t, c, nil, "\x00")
	writes(t, c, []int{5, 6}, "\x02\x05\x06")
	writes(t, c, []int{64, 0, greatest}, "\x03\x40\x40\x00\xff\xff\xff\xff\xff\xff\xff\xff")
	writes(t, c, make([]int, 9), "\x09"+strings.Repeat("\x00", 9))
	unwritten(t, c, make([]int, 10))
	unwritten(t, c, []int{1, -1})
	unwritten(t, c, []int{greatest + 1, 1})
	if s, e := codec.Encode(c, []int{}); s != "\x00" || e != api.OK {
		t.Errorf("the empty list: %q, %d", s, e)
	}
	long := codec.ListOf(codec.Flag(), 100)
	writes(t, long, make([]bool, 100), "\x40\x64"+strings.Repeat("\x00", 100))
}

func TestEmptyListIsNil(t *testing.T) {
	if v, e := codec.Decode(codec.ListOf(codec.Number(), 9), "\x00"); v != nil || e != api.OK {
		t.Errorf("%#v, %d", v, e)
	}
	v, e := codec.Decode(codec.ListOf(codec.ListOf(codec.Text(1), 1), 2), "\x02\x00\x00")
	if len(v) != 2 || v[0] != nil || v[1] != nil || e != api.OK {
		t.Errorf("%#v, %d", v, e)
	}
}

func TestListThatIsRefused(t *testing.T) {
	c := codec.ListOf(codec.Number(), 9)
	for _, s := range []string{"", "\x40", "\x01", "\x02\x05", "\x02\x05\x40"} {
		unread(t, c, s, api.ErrEnd)
	}
	unread(t, c, "\x40\x02\x05\x06", api.ErrForm)
	for _, s := range []string{"\x0a", "\x0a\x40\x00", "\x40\x40", "\xff\xff\xff\xff\xff\xff\xff\xff"} {
		unread(t, c, s, api.ErrRange)
	}
}

// The first error from the left is told, whatever stands behind it.
func TestFirstErrorFromTheLeft(t *testing.T) {
	c := codec.ListOf(codec.Text(2), 3)
	unread(t, c, "\x03\x01a\x40\x01b\x03", api.ErrForm)
	unread(t, c, "\x03\x01a\x03abc\x40\x01b", api.ErrRange)
	unread(t, c, "\x03\x01a\x02b", api.ErrEnd)
	unread(t, c, "\x04\x40\x01", api.ErrRange)
	flags := codec.ListOf(codec.Flag(), 3)
	unread(t, flags, "\x03\x02", api.ErrForm)
	unread(t, flags, "\x02\x02\x00\x00", api.ErrForm)
	unread(t, flags, "\x03\x00\x40", api.ErrEnd)
	pairs := codec.ListOf(codec.Record(
		codec.Field(func(p *pair) *string { return &p.name }, codec.Text(2)),
		codec.Field(func(p *pair) *bool { return &p.flag }, codec.Flag())), 2)
	unread(t, pairs, "\x02\x01a\x01\x03\x02", api.ErrRange)
	unread(t, pairs, "\x02\x01a\x02\x03\x02", api.ErrForm)
	unread(t, pairs, "\x02\x01a\x01\x01b", api.ErrEnd)
}

// A number that is spoilt is judged as such, not as one that is above most or no flag.
func TestSpoiltNumberIsNotHeldAgainstMost(t *testing.T) {
	unread(t, codec.Flag(), "\x7f", api.ErrEnd)
	for _, most := range []int{0, 3} {
		text, list := codec.Text(most), codec.ListOf(codec.Flag(), most)
		unread(t, text, "\x7f", api.ErrEnd)
		unread(t, list, "\x7f", api.ErrEnd)
		unread(t, text, "\x40\x3f", api.ErrForm)
		unread(t, list, "\x40\x3f", api.ErrForm)
	}
}

// Data that promises far more than it holds is refused on the spot.
func TestHugePromise(t *testing.T) {
	c := codec.ListOf(codec.ListOf(codec.ListOf(codec.Number(), api.MaxBytes), api.MaxBytes), api.MaxBytes)
	unread(t, c, strings.Repeat("\x80\x10\x00\x00", 3), api.ErrEnd)
	// Items that have no bytes are there none the less.
	none := codec.ListOf(codec.Record[struct{}](), api.MaxBytes)
	writes(t, none, make([]struct{}, api.MaxBytes), "\x80\x10\x00\x00")
	unread(t, codec.ListOf(none, 5), "\x02\x80\x10\x00\x00", api.ErrEnd)
}

// P2.3: a most below 0, of 0, and above MaxBytes.

func TestMostBelowNought(t *testing.T) {
	for _, most := range []int{0, -1, -3, math.MinInt} {
		text, list := codec.Text(most), codec.ListOf(codec.Number(), most)
		writes(t, text, "", "\x00")
		writes(t, list, nil, "\x00")
		unwritten(t, text, "a")
		unwritten(t, list, []int{1})
		unread(t, text, "\x01a", api.ErrRange)
		unread(t, list, "\x01\x01", api.ErrRange)
	}
}

func TestMostAboveMaxBytes(t *testing.T) {
	full := strings.Repeat("x", api.MaxBytes)
	flags := make([]bool, api.MaxBytes)
	for _, most := range []int{api.MaxBytes, api.MaxBytes + 1, math.MaxInt} {
		text, list := codec.Text(most), codec.ListOf(codec.Flag(), most)
		writes(t, text, full, "\x80\x10\x00\x00"+full)
		writes(t, list, flags, "\x80\x10\x00\x00"+strings.Repeat("\x00", len(flags)))
		unwritten(t, text, full+"x")
		unwritten(t, list, append(slices.Clip(flags), true))
		unread(t, text, "\x80\x10\x00\x01x"+full, api.ErrRange)
		unread(t, list, "\x80\x10\x00\x01\x00"+strings.Repeat("\x00", len(flags)), api.ErrRange)
	}
	unwritten(t, codec.Text(api.MaxBytes-1), full)
	unread(t, codec.Text(api.MaxBytes-1), "\x80\x10\x00\x00", api.ErrRange)
}

// Records.

type pair struct {
	name string
	flag bool
}

type thing struct {
	size  int
	left  int // of no part
	own   pair
	pairs []pair
	lists [][]int
}

func pairCodec() codec.Codec[pair] {
	return codec.Record(
		codec.Field(func(p *pair) *bool { return &p.flag }, codec.Flag()),
		codec.Field(func(p *pair) *string { return &p.name }, codec.Text(4)),
	)
}

func thingCodec() codec.Codec[thing] {
	return codec.Record(
		codec.Field(func(x *thing) *int { return &x.size }, codec.Number()),
		codec.Field(func(x *thing) *pair { return &x.own }, pairCodec()),
		codec.Field(func(x *thing) *[]pair { return &x.pairs }, codec.ListOf(pairCodec(), 3)),
		codec.Field(func(x *thing) *[][]int { return &x.lists }, codec.ListOf(codec.ListOf(codec.Number(), 3), 3)),
	)
}

// The parts stand in the order in which the record was told of them, which isn't the struct's.
func TestRecord(t *testing.T) {
	writes(t, pairCodec(), pair{"ab", true}, "\x01\x02ab")
	writes(t, thingCodec(), thing{}, "\x00\x00\x00\x00\x00")
	writes(t, thingCodec(), thing{
		size:  64,
		own:   pair{"a", false},
		pairs: []pair{{"", true}, {"bcde", false}},
		lists: [][]int{nil, {1, 2}},
	}, "\x40\x40"+"\x00\x01a"+"\x02\x01\x00\x00\x04bcde"+"\x02\x00\x02\x01\x02")
	writes(t, codec.Record[struct{}](), struct{}{}, "")
	writes(t, codec.Record[pair](), pair{}, "")
}

func TestRecordLeavesWhatIsNoPart(t *testing.T) {
	s, e := codec.Encode(thingCodec(), thing{size: 1, left: 7})
	if s != "\x01\x00\x00\x00\x00" || e != api.OK {
		t.Errorf("%q, %d", s, e)
	}
	if v, e := codec.Decode(thingCodec(), s); v.left != 0 || v.size != 1 || e != api.OK {
		t.Errorf("%v, %d", v, e)
	}
}

func TestRecordThatIsRefused(t *testing.T) {
	c := thingCodec()
	unwritten(t, c, thing{size: -1})
	unwritten(t, c, thing{own: pair{name: "abcde"}})
	unwritten(t, c, thing{pairs: make([]pair, 4)})
	unwritten(t, c, thing{pairs: []pair{{}, {name: "abcde"}}})
	unwritten(t, c, thing{lists: [][]int{nil, {1, -1}}})
	const s = "\x40\x40\x00\x01a\x02\x01\x00\x00\x04bcde\x02\x00\x02\x01\x02"
	for i := range len(s) {
		unread(t, c, s[:i], api.ErrEnd)
	}
	unread(t, c, s+"\x00", api.ErrForm)
	unread(t, c, "\x00\x02", api.ErrForm)
	unread(t, c, "\x00\x00\x05", api.ErrRange)
	unread(t, c, "\x00\x00\x00\x04", api.ErrRange)
	unread(t, c, "\x00\x00\x00\x00\x03\x00\x00\x04", api.ErrRange)
}

// A part of a record may be the record itself, by other parts, as deep as one likes.
func TestDeepRecord(t *testing.T) {
	c := codec.Record(codec.Field(func(n *int) *int { return n }, codec.Number()))
	for range 1 << 16 {
		c = codec.Record(codec.Field(func(n *int) *int { return n }, c))
	}
	writes(t, c, 16384, "\x80\x00\x40\x00")
	unread(t, c, "\x80\x00\x40", api.ErrEnd)
}

// The list of parts isn't kept.
func TestRecordKeepsNotTheListOfParts(t *testing.T) {
	name := codec.Field(func(p *pair) *string { return &p.name }, codec.Text(4))
	flag := codec.Field(func(p *pair) *bool { return &p.flag }, codec.Flag())
	parts := []codec.Part[pair]{name, flag}
	c := codec.Record(parts...)
	parts[0], parts[1] = flag, flag
	writes(t, c, pair{"a", true}, "\x01a\x01")
}

// P1: a way to a part that leads nowhere is no panic of the call.
func TestPartThatIsNotFound(t *testing.T) {
	for _, get := range []func(*pair) *string{
		nil,
		func(*pair) *string { return nil },
		func(*pair) *string { panic("no way") },
		func(*pair) *string { var p *pair; return &p.name },
	} {
		c := codec.Record(codec.Field(func(p *pair) *bool { return &p.flag }, codec.Flag()), codec.Field(get, codec.Text(4)))
		unwritten(t, c, pair{"a", true})
		unread(t, c, "\x01\x01a", api.ErrForm)
		unread(t, c, "\x02", api.ErrForm)
		unread(t, c, "", api.ErrEnd)
	}
}

// What is handed in stays as it is, and answers share nothing with it or with each other.

func TestArgumentsStay(t *testing.T) {
	back := []int{1, 2, 3, 4}
	list := back[:2]
	v := thing{size: 5, lists: [][]int{list}}
	s, _ := codec.Encode(thingCodec(), v)
	if !slices.Equal(back, []int{1, 2, 3, 4}) || v.size != 5 || !slices.Equal(v.lists[0], list) {
		t.Errorf("changed: %v, %v", back, v)
	}
	list[0] = 9
	if got, _ := codec.Decode(thingCodec(), s); got.lists[0][0] != 1 {
		t.Error("what was written changed with the argument")
	}
}

func TestAnswersAreNewMemory(t *testing.T) {
	c := codec.ListOf(codec.ListOf(codec.Number(), 3), 3)
	one, _ := codec.Decode(c, "\x02\x02\x01\x02\x02\x03\x04")
	two, _ := codec.Decode(c, "\x02\x02\x01\x02\x02\x03\x04")
	for _, l := range one {
		l = l[:cap(l)]
		for i := range l {
			l[i] = 9
		}
		_ = append(l, 9)
	}
	if want := [][]int{{1, 2}, {3, 4}}; !reflect.DeepEqual(two, want) {
		t.Errorf("%v", two)
	}
	three, _ := codec.Decode(c, "\x02\x02\x01\x02\x02\x03\x04")
	first := three[0][:cap(three[0])]
	for i := range first {
		first[i] = 9
	}
	if !slices.Equal(three[1], []int{3, 4}) {
		t.Errorf("%v", three)
	}
	data := strings.Repeat("a", 61)
	whole := "\x3d" + data
	text, _ := codec.Decode(codec.Text(61), whole)
	at, from := uintptr(unsafe.Pointer(unsafe.StringData(text))), uintptr(unsafe.Pointer(unsafe.StringData(whole)))
	if text != data || at >= from && at < from+uintptr(len(whole)) {
		t.Error("the text that was read is a piece of the data")
	}
}

// An error of one call is none of the next one's.
func TestCodecsKeepNothing(t *testing.T) {
	c := thingCodec()
	unwritten(t, c, thing{size: -1})
	unread(t, c, "\x02\x02", api.ErrForm)
	writes(t, c, thing{size: 3}, "\x03\x00\x00\x00\x00")
}

// Things at random: they come back, no shorter piece of them does, and what is read at all is written as it stood.
func TestRoundTrips(t *testing.T) {
	r := rand.New(rand.NewSource(2))
	c := thingCodec()
	for range 3000 {
		v := thing{size: r.Intn(1 << r.Intn(63)), own: randomPair(r)}
		for range r.Intn(4) {
			v.pairs = append(v.pairs, randomPair(r))
			v.lists = append(v.lists, []int{r.Intn(1 << r.Intn(63))})
		}
		s, e := codec.Encode(c, v)
		if e != api.OK {
			t.Fatalf("%v: %d", v, e)
		}
		writes(t, c, v, s)
		unread(t, c, s[:r.Intn(len(s))], api.ErrEnd)
		spoilt := []byte(s)
		spoilt[r.Intn(len(s))] = byte(r.Intn(256))
		if got, e := codec.Decode(c, string(spoilt)); e == api.OK {
			writes(t, c, got, string(spoilt))
		} else {
			unread(t, c, string(spoilt), e)
		}
	}
}

func randomPair(r *rand.Rand) pair {
	return pair{"abcd"[:r.Intn(5)], r.Intn(2) == 1}
}
