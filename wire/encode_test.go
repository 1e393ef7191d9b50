package wire_test

import (
	"math"
	"testing"

	"tideline/api"
	"tideline/frame"
	"tideline/wire"
)

// P12.1: the chapter's rows.
func TestEncodeExamples(t *testing.T) {
	for _, x := range []struct {
		f    api.Frame
		want string
	}{
		{firstRow(), firstBytes},
		{secondRow(), secondBytes},
		{thirdRow(), thirdBytes},
	} {
		if b, e := wire.Encode(x.f); string(b) != x.want || e != api.OK {
			t.Errorf("Encode(%+v): %q, %d, want %q", x.f, b, e, x.want)
		}
	}
	if b, e := wire.Encode(api.Frame{}); len(b) != 0 || e != api.ErrEnds {
		t.Errorf("Encode of the zero Frame: %q, %d", b, e)
	}
}

// P12.1: frames of all sorts, held against bytes that are laid down by the words.
func TestEncode(t *testing.T) {
	for _, f := range goodFrames() {
		if b, e := wire.Encode(f); string(b) != bytesOf(f) || e != api.OK {
			t.Fatalf("Encode(%s): %s, %d, want %s", brief(f), short(string(b)), e, short(bytesOf(f)))
		}
	}
}

// P12.1: some frames, byte by byte.
func TestEncodeBytes(t *testing.T) {
	const head = "\x02\x01\x01\x01\x01\x01"
	for _, x := range []struct {
		f    api.Frame
		want string
	}{
		{api.Frame{From: 0, To: 7, Session: name(7, 1, 1), Turn: 63}, "\x00\x07\x07\x01\x01\x3F\x00"},
		{api.Frame{From: 7, To: 0, Session: name(7, 1<<20, 1<<20), Turn: 62}, "\x07\x00\x07\x80\x80\x40\x80\x80\x40\x3E\x00"},
		{api.Frame{From: 3, To: 4, Session: name(4, 127, 128), Turn: 5}, "\x03\x04\x04\x7F\x80\x01\x05\x00"},
		{said(1, items(whole())), head + "\x01" + "\x02\x00\x01\x00"},
		{said(1, items(rng("", "a"))), head + "\x01" + "\x02\x00\x00\x01a\x00"},
		{said(1, print(from("ab"), tally(0, 0, 0))), head + "\x01" + "\x01\x02ab\x01\x00" + "\x00\x00\x00\x00\x00\x00\x00\x00" + "\x00\x00\x00\x00\x00\x00\x00\x00"},
		{said(1, print(rng("a", "b"), tally(256, math.MaxUint64, 0x0102030405060708))), head + "\x01" + "\x01\x01a\x00\x01b\x80\x02" + "\xFF\xFF\xFF\xFF\xFF\xFF\xFF\xFF" + "\x01\x02\x03\x04\x05\x06\x07\x08"},
		{said(1, reply(from("a"), entry("a", 300, 1, "bc"), dead("b", greatest, 7))), head + "\x01" + "\x03\x01a\x01\x02" + "\x01a\xAC\x02\x01\x00\x02bc" + "\x01b\x80\x80\x80\x80\x80\x20\x07\x01"},
		{said(1, items(rng(longKey, highest), entry(longKey, 1, 0, longValue))), head + "\x01" + "\x02\x10" + longKey + "\x00\x10" + highest + "\x01" + "\x10" + longKey + "\x01\x00\x00\x20" + longValue},
		{said(1, items(rng("a", "b")), reply(from("c"), entry("c", 1, 0, ""))), head + "\x02" + "\x02\x01a\x00\x01b\x00" + "\x03\x01c\x01\x01" + "\x01c\x01\x00\x00\x00"},
	} {
		if b, e := wire.Encode(x.f); string(b) != x.want || e != api.OK {
			t.Errorf("Encode(%+v): %q, %d, want %q", x.f, b, e, x.want)
		}
	}
}

// P12.1: how many parts and entries there are is a number of two bytes, too.
func TestEncodeCounts(t *testing.T) {
	full := encode(t, said(2, items(whole(), under(numbered(mostEntries)...)...)))
	if got, want := full[:16], "\x01\x02\x01\x01\x01\x02\x01"+"\x02\x00\x01\x80\x02"+"\x03k\x00\x00"; got != want {
		t.Errorf("as many entries as may be begin with %q, want %q", got, want)
	}
	full = encode(t, said(2, prints(mostParts)...))
	if got, want := full[:16], "\x01\x02\x01\x01\x01\x02\x80\x06"+"\x01\x03k\x00\x00\x00\x03k"; got != want {
		t.Errorf("as many parts as may be begin with %q, want %q", got, want)
	}
}

// P12.1: never more than MaxFrame bytes.
func TestEncodeSize(t *testing.T) {
	const (
		bounds   = 1 + 17 + 1 + 17 // of a part's bytes the kind and the range
		anEntry  = 17 + 6 + 1 + 1 + 33
		expected = 12 + (mostParts-1)*(bounds+2+16) + bounds + 2 + mostEntries*anEntry
	)
	if n := len(encode(t, widest())); n != expected || n > mostBytes || mostBytes != api.MaxFrame {
		t.Errorf("the longest frame has %d bytes, want %d", n, expected)
	}
	for _, f := range goodFrames() {
		if n := len(encode(t, f)); n > expected {
			t.Errorf("%s has %d bytes", brief(f), n)
		}
	}
}

// P12.1: lists without elements are written alike, nil or not.
func TestEncodeEmptyLists(t *testing.T) {
	none, empty := said(1), said(1)
	empty.Parts = make([]api.Part, 0, 3)
	if a, b := encode(t, none), encode(t, empty); a != firstBytes || b != firstBytes {
		t.Errorf("no parts: %q and %q", a, b)
	}
	for kind := 1; kind <= 2; kind++ {
		nothing := api.Part{Kind: kind, Range: whole()}
		list := nothing
		list.Entries = make([]api.Entry, 0, 3)
		if a, b := encode(t, said(1, nothing)), encode(t, said(1, list)); a != b {
			t.Errorf("no entries: %q and %q", a, b)
		}
	}
}

// notEncoded asks for an error, and no bytes beside it; it is frame.Check's.
func notEncoded(t *testing.T, what string, f api.Frame, want api.Errno) {
	t.Helper()
	b, e := wire.Encode(f)
	if len(b) != 0 || e != want || frame.Check(f) != want {
		t.Errorf("%s: Encode(%s): %s, %d, want %d; frame.Check: %d", what, brief(f), short(string(b)), e, want, frame.Check(f))
	}
}

// flaw makes a frame wrong; the lower its place is, the earlier frame.Check tells it.
type flaw struct {
	what  string
	place int
	make  func(f *api.Frame)
	e     api.Errno
}

// frameFlaws are those of a frame itself, of what Check asks for ahead of the parts.
func frameFlaws() []flaw {
	return []flaw{
		{"From below 0", 1, func(f *api.Frame) { f.From = -1 }, api.ErrEnds},
		{"From too great", 1, func(f *api.Frame) { f.From = 8 }, api.ErrEnds},
		{"To below 0", 1, func(f *api.Frame) { f.To = math.MinInt }, api.ErrEnds},
		{"To too great", 1, func(f *api.Frame) { f.To = math.MaxInt }, api.ErrEnds},
		{"both ends alike", 1, func(f *api.Frame) { f.To = f.From }, api.ErrEnds},
		{"another Opener", 1, func(f *api.Frame) { f.Session.Opener = 5 }, api.ErrEnds},
		{"an Opener below 0", 1, func(f *api.Frame) { f.Session.Opener = -1 }, api.ErrEnds},
		{"no Life", 2, func(f *api.Frame) { f.Session.Life = 0 }, api.ErrName},
		{"a Life too great", 2, func(f *api.Frame) { f.Session.Life = mostLives + 1 }, api.ErrName},
		{"no Number", 2, func(f *api.Frame) { f.Session.Number = 0 }, api.ErrName},
		{"a Number below 0", 2, func(f *api.Frame) { f.Session.Number = -1 }, api.ErrName},
		{"a Number too great", 2, func(f *api.Frame) { f.Session.Number = mostLives + 1 }, api.ErrName},
		{"a Turn below 0", 3, func(f *api.Frame) { f.Turn = -1 }, api.ErrTurn},
		{"a Turn too great", 3, func(f *api.Frame) { f.Turn = lastTurn + 1 }, api.ErrTurn},
		{"the other side's Turn", 3, func(f *api.Frame) { f.Turn++ }, api.ErrTurn},
		{"too many parts", 4, func(f *api.Frame) { f.Parts = append(f.Parts, make([]api.Part, mostParts)...) }, api.ErrMany},
		{"too many entries", 4, func(f *api.Frame) {
			f.Parts = append(f.Parts, items(from("y"), make([]api.Entry, mostEntries+1)...))
		}, api.ErrMany},
	}
}

// partFlaws are those of the parts that twoParts has, one behind the other.
func partFlaws() []flaw {
	first := func(change func(p *api.Part)) func(f *api.Frame) { return func(f *api.Frame) { change(&f.Parts[0]) } }
	then := func(change func(p *api.Part)) func(f *api.Frame) { return func(f *api.Frame) { change(&f.Parts[1]) } }
	with := func(e api.Entry) func(p *api.Part) {
		return func(p *api.Part) { p.Entries = append(p.Entries, e) }
	}
	return []flaw{
		{"the kind 0", 5, first(func(p *api.Part) { p.Kind = 0 }), api.ErrPart},
		{"a Print with an entry", 5, first(with(at("a"))), api.ErrPart},
		{"a long Lo", 6, first(func(p *api.Part) { p.Range.Lo = tooLongKey }), api.ErrKey},
		{"an inverted range", 6, first(func(p *api.Part) { p.Range.Lo, p.Range.Hi = "b", "a" }), api.ErrRange},
		{"an Open range with an end", 6, first(func(p *api.Part) { p.Range = api.Range{Lo: "a", Hi: "b", Open: true} }), api.ErrRange},
		{"an empty range", 7, first(func(p *api.Part) { p.Range.Lo, p.Range.Hi = "a", "a" }), api.ErrTiles},
		{"a Count below 0", 8, first(func(p *api.Part) { p.Tally.Count = -1 }), api.ErrTally},
		{"a Count too great", 8, first(func(p *api.Part) { p.Tally.Count = mostEntries + 1 }), api.ErrTally},
		{"a Sum of nothing", 8, first(func(p *api.Part) { p.Tally.Count = 0 }), api.ErrTally},
		{"the kind 4", 9, then(func(p *api.Part) { p.Kind = 4 }), api.ErrPart},
		{"a Reply with a Tally", 9, then(func(p *api.Part) { p.Tally = tally(0, 0, 1) }), api.ErrPart},
		{"a long Hi", 10, then(func(p *api.Part) { p.Range.Hi = tooLongKey }), api.ErrKey},
		{"a range that begins too low", 11, then(func(p *api.Part) { p.Range.Lo = "a" }), api.ErrTiles},
		{"an entry with a long key", 12, then(with(at("c" + longKey))), api.ErrKey},
		{"an entry without a version", 12, then(with(api.Entry{Key: "c"})), api.ErrVersion},
		{"an entry of no node", 12, then(with(entry("c", 1, 8, ""))), api.ErrVersion},
		{"an entry with a long value", 12, then(with(entry("c", 1, 0, tooLongValue))), api.ErrValue},
		{"a dead entry with a value", 12, then(with(api.Entry{Key: "c", Version: api.Version{Counter: 1}, Value: "v", Dead: true})), api.ErrDead},
		{"an entry outside", 12, then(with(at("d"))), api.ErrItems},
		{"an entry twice", 12, then(with(at("b"))), api.ErrItems},
		{"a Reply without entries", 13, then(func(p *api.Part) { p.Entries = nil }), api.ErrItems},
	}
}

// twoParts is a frame without a flaw.
func twoParts() api.Frame {
	return said(2, print(rng("a", "b"), tally(1, 2, 3)), reply(rng("b", "d"), at("b")))
}

// P12.1: each of frame.Check's errors.
func TestEncodeOneFlaw(t *testing.T) {
	encode(t, twoParts())
	for _, x := range append(frameFlaws(), partFlaws()...) {
		f := twoParts()
		x.make(&f)
		notEncoded(t, x.what, f, x.e)
	}
	notEncoded(t, "an entry in a Print of turn 0", said(0, api.Part{Kind: 1, Range: whole(), Entries: under("a")}), api.ErrPart)
	for _, l := range [][]api.Part{nil, {items(whole())}, {print(from("a"), tally(1, 0, 0))}, prints(2)} {
		notEncoded(t, "turn 0 without its one part", said(0, l...), api.ErrPart)
	}
}

// P12.1: of two flaws the one that frame.Check names first is told.
func TestEncodeTwoFlaws(t *testing.T) {
	all := append(frameFlaws(), partFlaws()...)
	for _, first := range all {
		for _, then := range all {
			// A Reply without entries, which is asked for last, has none of which one is wrong.
			if first.place >= then.place || first.place == 12 {
				continue
			}
			f := twoParts()
			then.make(&f)
			first.make(&f)
			notEncoded(t, first.what+" and "+then.what, f, first.e)
		}
	}
	wrongParts := []struct {
		l []api.Part
		e api.Errno
	}{
		{[]api.Part{reply(whole())}, api.ErrItems},
		{[]api.Part{print(whole(), tally(-1, 0, 0))}, api.ErrTally},
		{[]api.Part{items(whole()), items(whole())}, api.ErrTiles},
		{make([]api.Part, mostParts+1), api.ErrMany},
	}
	for _, x := range wrongParts {
		notEncoded(t, "wrong parts, and not those of turn 0", said(0, x.l...), x.e)
	}
}

// P12.1, R1: numbers at all edges, in each field.
func TestEncodeAnyNumbers(t *testing.T) {
	numbers := []int{math.MinInt, -1 << 32, -1, 0, 1, 2, 7, 8, 63, 64, 127, 128, mostLives, mostLives + 1, greatest, greatest + 1, math.MaxInt}
	fields := []func(f *api.Frame) *int{
		func(f *api.Frame) *int { return &f.From },
		func(f *api.Frame) *int { return &f.To },
		func(f *api.Frame) *int { return &f.Session.Opener },
		func(f *api.Frame) *int { return &f.Session.Life },
		func(f *api.Frame) *int { return &f.Session.Number },
		func(f *api.Frame) *int { return &f.Turn },
		func(f *api.Frame) *int { return &f.Parts[0].Kind },
		func(f *api.Frame) *int { return &f.Parts[0].Tally.Count },
		func(f *api.Frame) *int { return &f.Parts[1].Entries[0].Version.Counter },
		func(f *api.Frame) *int { return &f.Parts[1].Entries[0].Version.Node },
	}
	for _, field := range fields {
		for _, n := range numbers {
			f := twoParts()
			*field(&f) = n
			if e := frame.Check(f); e != api.OK {
				notEncoded(t, "a number", f, e)
			} else if got := encode(t, f); got != bytesOf(f) {
				t.Errorf("Encode(%+v): %q, want %q", f, got, bytesOf(f))
			}
		}
	}
}
