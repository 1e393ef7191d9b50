package frame_test

import (
	"math"
	"math/rand/v2"
	"slices"
	"testing"

	"tideline/api"
	"tideline/frame"
)

// checked holds what Check answers against what it should, and the second reading against that.
func checked(t *testing.T, what string, f api.Frame, want api.Errno) {
	t.Helper()
	if e := frame.Check(f); e != want {
		t.Errorf("%s: Check: %d, want %d", what, e, want)
	}
	if e := plainCheck(f); e != want {
		t.Errorf("%s: the second reading has %d, want %d", what, e, want)
	}
}

// w is a Print of the whole range with the zero Tally.
func w() api.Part { return print(whole(), tally(0, 0, 0)) }

// P11.3: the chapter's examples.
func TestCheckOfTheExamples(t *testing.T) {
	checked(t, "the zero Frame", api.Frame{}, api.ErrEnds)
	first := api.Frame{From: 1, To: 2, Session: s(), Parts: parts(w())}
	checked(t, "the first one", first, api.OK)
	without := first
	without.Parts = nil
	checked(t, "it without parts", without, api.ErrPart)
	without.Turn = 2
	checked(t, "with Turn 2", without, api.OK)
	first.Turn = 2
	checked(t, "with Turn 2 and its part", first, api.OK)
	answer := api.Frame{From: 2, To: 1, Session: s(), Turn: 1}
	checked(t, "an answer", answer, api.OK)
	for _, turn := range []int{0, 64} {
		other := answer
		other.Turn = turn
		checked(t, "with another turn", other, api.ErrTurn)
	}
	answer.From = 3
	// The chapter's table has ErrEnds here; by P11.3 that is so only where the Opener, node 1, is none of the two.
	checked(t, "from node 3", answer, api.OK)
	answer.To = 2
	checked(t, "from node 3 to node 2", answer, api.ErrEnds)
}

// P11.3
func TestGoodFrames(t *testing.T) {
	for i, f := range goodFrames() {
		if e := frame.Check(f); e != api.OK {
			t.Errorf("good frame %d: %d", i, e)
		}
	}
	for i, f := range wrongFrames() {
		if e := frame.Check(f); e == api.OK || e != plainCheck(f) {
			t.Errorf("wrong frame %d: %d, want %d", i, e, plainCheck(f))
		}
	}
}

// P11.3, 1 and 3: nodes and turns of all sorts, each with each.
func TestEndsAndTurns(t *testing.T) {
	nodes := []int{math.MinInt, -8, -1, 0, 1, 2, 6, 7, 8, 9, 1 << 32, math.MaxInt}
	turns := []int{math.MinInt, math.MinInt + 1, -64, -2, -1, 0, 1, 2, 3, 62, 63, 64, 65, 128, 1 << 32, math.MaxInt - 1, math.MaxInt}
	for _, from := range nodes {
		for _, to := range nodes {
			for _, opener := range nodes {
				for _, turn := range turns {
					f := api.Frame{From: from, To: to, Session: name(opener, 1, 1), Turn: turn, Parts: parts(w())}
					if e, want := frame.Check(f), plainCheck(f); e != want {
						t.Fatalf("Check(%+v): %d, want %d", f, e, want)
					}
				}
			}
		}
	}
}

// P11.3, 1
func TestEnds(t *testing.T) {
	for _, x := range []struct {
		from, to, opener int
		want             api.Errno
	}{
		{0, 7, 0, api.OK}, {7, 0, 7, api.OK}, {0, 1, 0, api.OK}, {6, 7, 6, api.OK},
		{-1, 0, 0, api.ErrEnds}, {0, -1, 0, api.ErrEnds}, {8, 0, 8, api.ErrEnds}, {0, 8, 0, api.ErrEnds},
		{0, 0, 0, api.ErrEnds}, {7, 7, 7, api.ErrEnds}, {8, 8, 8, api.ErrEnds},
		{0, 1, 2, api.ErrEnds}, {6, 7, 5, api.ErrEnds}, {0, 1, -1, api.ErrEnds}, {0, 1, 8, api.ErrEnds},
		{math.MinInt, 0, 0, api.ErrEnds}, {0, math.MaxInt, 0, api.ErrEnds}, {0, 1, math.MinInt, api.ErrEnds},
	} {
		checked(t, "the ends", api.Frame{From: x.from, To: x.to, Session: name(x.opener, 1, 1), Parts: parts(w())}, x.want)
	}
}

// P11.3, 2
func TestNamesOfFrames(t *testing.T) {
	for _, life := range anyNumbers() {
		for _, number := range anyNumbers() {
			for _, f := range []api.Frame{said(0, w()), said(1), said(2, items(whole()))} {
				f.Session.Life, f.Session.Number = life, number
				checked(t, "any Life and Number", f, plainName(f.Session))
			}
		}
	}
}

// P11.3, 3: each turn that there is, at both sides.
func TestTurns(t *testing.T) {
	for turn := range lastTurn + 1 {
		f := said(turn, w())
		checked(t, "the sender's turn", f, api.OK)
		f.From, f.To = f.To, f.From
		checked(t, "the other one's turn", f, api.ErrTurn)
		f.Session.Opener = 2
		checked(t, "of the other one's session", f, api.OK)
	}
	for _, turn := range []int{-1, -2, -63, -64, math.MinInt, math.MinInt + 1, lastTurn + 1, lastTurn + 2, math.MaxInt, math.MaxInt - 1} {
		f := said(turn, w())
		checked(t, "no turn", f, api.ErrTurn)
		f.From, f.To = f.To, f.From
		checked(t, "no turn", f, api.ErrTurn)
	}
}

// P11.3, 4
func TestPartsOfFrames(t *testing.T) {
	for turn := range 4 {
		for kind := 1; kind <= 3; kind++ {
			for _, x := range flaws() {
				if x.fits(kind) {
					l := between(kind)
					x.make(&l[1])
					checked(t, x.what, said(turn, l...), x.e)
				}
			}
		}
		checked(t, "too many parts", said(turn, prints(mostParts+1)...), api.ErrMany)
		checked(t, "too many entries", said(turn, withEntries(mostEntries+1, mostEntries+1)...), api.ErrMany)
	}
	for _, l := range goodParts() {
		for _, turn := range []int{1, 2, lastTurn - 1, lastTurn} {
			checked(t, "good parts", said(turn, l...), api.OK)
		}
	}
}

// P11.3, 5
func TestPartsOfTurn0(t *testing.T) {
	for _, sum := range []api.Tally{{}, tally(1, 0, 0), tally(mostEntries, math.MaxUint64, 1)} {
		checked(t, "a Print of the whole range", said(0, print(whole(), sum)), api.OK)
	}
	for _, l := range [][]api.Part{
		nil,
		{},
		{items(whole())},
		{items(whole(), at("a"))},
		{reply(whole(), at("a"))},
		{print(rng("a", "b"), tally(1, 2, 3))},
		{print(rng("", highest), tally(0, 0, 0))},
		{print(from("\x00"), tally(0, 0, 0))},
		{print(from("a"), tally(0, 0, 0))},
		{print(rng("", "a"), tally(0, 0, 0)), print(from("a"), tally(0, 0, 0))},
		{print(rng("", "a"), tally(0, 0, 0)), items(from("a"))},
		{items(rng("", "a")), print(from("a"), tally(0, 0, 0))},
	} {
		checked(t, "not just a Print of the whole range", said(0, l...), api.ErrPart)
		checked(t, "the same in turn 2", said(2, l...), api.OK)
	}
	for _, l := range goodParts() {
		f := said(0, l...)
		checked(t, "good parts in turn 0", f, plainOpening(f))
	}
	// What is wrong with the part itself is told ahead.
	checked(t, "a Print of an empty range", said(0, print(rng("", ""), tally(0, 0, 0))), api.ErrTiles)
	checked(t, "an inverted range", said(0, print(rng("b", "a"), tally(0, 0, 0))), api.ErrRange)
	checked(t, "a Tally that may not be", said(0, print(from("a"), tally(0, 1, 0))), api.ErrTally)
	checked(t, "a Reply without entries", said(0, reply(whole())), api.ErrItems)
	checked(t, "the whole range twice", said(0, w(), w()), api.ErrTiles)
}

type wrong struct {
	what string
	make func(f *api.Frame)
	e    api.Errno
}

// wrongs make a frame wrong by P11.3's rules, in their order.
func wrongs() []wrong {
	return []wrong{
		{"From", func(f *api.Frame) { f.From = 8 }, api.ErrEnds},
		{"To", func(f *api.Frame) { f.To = -1 }, api.ErrEnds},
		{"alike", func(f *api.Frame) { f.To = f.From }, api.ErrEnds},
		{"Opener", func(f *api.Frame) { f.Session.Opener = 5 }, api.ErrEnds},
		{"Life", func(f *api.Frame) { f.Session.Life = 0 }, api.ErrName},
		{"Number", func(f *api.Frame) { f.Session.Number = mostLives + 1 }, api.ErrName},
		{"Turn", func(f *api.Frame) { f.Turn = lastTurn + 1 }, api.ErrTurn},
		{"the turn", func(f *api.Frame) { f.Turn++ }, api.ErrTurn},
		{"many", func(f *api.Frame) { f.Parts = make([]api.Part, mostParts+1) }, api.ErrMany},
		{"a part", func(f *api.Frame) { f.Parts = parts(api.Part{Range: rng("b", "a")}) }, api.ErrPart},
		{"a range", func(f *api.Frame) { f.Parts = parts(print(rng("b", "a"), tally(0, 1, 0))) }, api.ErrRange},
		{"ranges", func(f *api.Frame) { f.Parts = parts(w(), print(whole(), tally(0, 1, 0))) }, api.ErrTiles},
		{"a tally", func(f *api.Frame) { f.Parts = parts(print(whole(), tally(0, 1, 0)), reply(whole())) }, api.ErrTally},
		{"a version", func(f *api.Frame) { f.Parts = parts(items(whole(), api.Entry{}, api.Entry{})) }, api.ErrVersion},
		{"entries", func(f *api.Frame) { f.Parts = parts(reply(whole(), at("a"), at("a"))) }, api.ErrItems},
		{"the first parts", func(f *api.Frame) { f.Parts = nil }, api.ErrPart},
	}
}

// P11.3: of two that are wrong the first is told.
func TestTwoWrongs(t *testing.T) {
	for i, first := range wrongs() {
		f := said(0, w())
		first.make(&f)
		checked(t, first.what, f, first.e)
		for _, then := range wrongs()[i+1:] {
			f := said(0, w())
			then.make(&f)
			first.make(&f)
			checked(t, first.what+" and "+then.what, f, first.e)
		}
	}
}

// P11.3: any frames, held against the second reading.
func TestAnyFrames(t *testing.T) {
	rnd := rand.New(rand.NewPCG(11, 3))
	seen := map[api.Errno]int{}
	for range 200000 {
		f := someFrame(rnd)
		e, want := frame.Check(f), plainCheck(f)
		if e != want {
			t.Fatalf("Check(%+v): %d, want %d", f, e, want)
		}
		seen[e]++
	}
	for _, e := range []api.Errno{api.OK, api.ErrEnds, api.ErrName, api.ErrTurn, api.ErrPart, api.ErrTiles, api.ErrTally, api.ErrItems} {
		if seen[e] < 500 {
			t.Errorf("%d came %d times only", e, seen[e])
		}
	}
}

// someFrame is most often one that may be, but for its parts; of small turns, 0 among them.
func someFrame(rnd *rand.Rand) api.Frame {
	nodes := rnd.Perm(8)
	f := api.Frame{From: nodes[0], To: nodes[1], Session: name(nodes[0], 1+rnd.IntN(mostLives), 1+rnd.IntN(mostLives)), Turn: rnd.IntN(4), Parts: someParts(rnd)}
	if f.Turn%2 == 1 {
		f.Session.Opener = f.To
	}
	if f.Turn == 0 && rnd.IntN(4) > 0 {
		f.Parts = parts(print(whole(), tally(rnd.IntN(3), uint64(rnd.IntN(2)), 0)))
	}
	numbers := anyNumbers()
	number := numbers[rnd.IntN(len(numbers))]
	switch rnd.IntN(20) {
	case 0:
		f.From = number
	case 1:
		f.To = number
	case 2:
		f.Session.Opener = number
	case 3:
		f.Session.Life = number
	case 4:
		f.Session.Number = number
	case 5:
		f.Turn = number
	case 6:
		f.From, f.To = f.To, f.From
	}
	return f
}

// R3, R5: asked again the answer is the same, and nothing is changed.
func TestCheckChangesNothing(t *testing.T) {
	for _, f := range slices.Concat(goodFrames(), wrongFrames()) {
		was := copied(f)
		first := frame.Check(f)
		frame.CheckParts(f.Parts)
		if again := frame.Check(f); again != first || !alike(f, was) {
			t.Errorf("Check: %d, then %d; the frame is the same: %t", first, again, alike(f, was))
		}
	}
}
