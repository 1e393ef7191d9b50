package frame_test

import (
	"math/rand/v2"
	"slices"
	"testing"

	"tideline/api"
	"tideline/frame"
	"tideline/span"
)

// risesThroughout holds a frame that may be to what follows of it.
func risesThroughout(t *testing.T, f api.Frame) {
	t.Helper()
	var ranges []api.Range
	var keys []string
	for _, p := range f.Parts {
		ranges = append(ranges, p.Range)
		for _, e := range p.Entries {
			keys = append(keys, e.Key)
			if !span.Holds(p.Range, e.Key) {
				t.Errorf("%q is not in %#v", e.Key, p.Range)
			}
		}
	}
	if !span.Rising(ranges) {
		t.Errorf("the ranges do not rise: %#v", ranges)
	}
	for i := range keys {
		if i > 0 && keys[i] <= keys[i-1] {
			t.Errorf("the keys do not rise: %q", keys)
		}
	}
	if len(keys) != frame.Entries(f) || len(keys) > mostEntries || len(ranges) > mostParts {
		t.Errorf("%d ranges, %d entries", len(ranges), len(keys))
	}
}

// P11.6
func TestGoodFramesRise(t *testing.T) {
	for _, f := range goodFrames() {
		risesThroughout(t, f)
	}
}

// P11.6: of any frames those that Check lets through.
func TestAnyFramesRise(t *testing.T) {
	rnd := rand.New(rand.NewPCG(11, 6))
	through := 0
	for range 200000 {
		f := someFrame(rnd)
		if frame.Check(f) != api.OK {
			continue
		}
		through++
		risesThroughout(t, f)
		if t.Failed() {
			t.Fatalf("%+v", f)
		}
	}
	if through < 10000 {
		t.Errorf("only %d frames", through)
	}
}

// P11.6: all rows of three parts over few ranges, with each of few lists of entries.
func TestAllSmallFramesRise(t *testing.T) {
	var choices []api.Part
	for _, r := range []api.Range{rng("", "a"), rng("a", "b"), rng("a", "c"), rng("b", "c"), from("b"), from("c"), whole(), rng("b", "b")} {
		choices = append(choices, print(r, tally(1, 2, 3)), items(r), reply(r, at("a")), items(r, at("a"), at("b")), reply(r, at("b"), at("c")))
	}
	through := 0
	for _, p := range choices {
		for _, q := range choices {
			for _, r := range choices {
				f := said(2, p, q, r)
				if frame.Check(f) != api.OK {
					continue
				}
				through++
				risesThroughout(t, f)
			}
		}
	}
	if through < 20 {
		t.Errorf("only %d frames", through)
	}
}

// P11.6: the answer to an answer goes the way of the first; the peer's turns are odd.
func TestAnswersToAnswers(t *testing.T) {
	good := goodParts()
	for _, x := range []struct {
		peer int
		n    api.Name
	}{{2, s()}, {0, name(7, mostLives, 1)}, {7, name(0, 1, mostLives)}} {
		first, e := frame.First(x.peer, x.n, tally(2, 3, 4))
		if e != api.OK {
			t.Fatal(e)
		}
		f := first
		for turn := 1; turn <= lastTurn; turn++ {
			l := good[turn%len(good)]
			f, e = frame.Answer(f, l)
			if e != api.OK || f.Turn != turn || f.Session != x.n || !alike(api.Frame{Parts: f.Parts}, api.Frame{Parts: l}) {
				t.Fatalf("turn %d: %d, %+v", turn, e, f)
			}
			isPeers := turn%2 == 1
			if (f.From == x.peer) != isPeers || (f.To == x.peer) == isPeers || (f.From == x.n.Opener) == isPeers {
				t.Errorf("turn %d goes from %d to %d", turn, f.From, f.To)
			}
			risesThroughout(t, f)
		}
		if g, e := frame.Answer(f, nil); e != api.ErrTurn || !alike(g, api.Frame{}) {
			t.Errorf("behind the last turn: %d, %+v", e, g)
		}
	}
}

// P11.6: of any frame that may be, at any turn.
func TestAnswersToAnyAnswers(t *testing.T) {
	rnd := rand.New(rand.NewPCG(11, 7))
	for range 50000 {
		f := someFrame(rnd)
		answer, e := frame.Answer(f, nil)
		if e != api.OK {
			continue
		}
		g, e := frame.Answer(answer, slices.Clone(f.Parts))
		if f.Turn+2 <= lastTurn && (e != api.OK || g.From != f.From || g.To != f.To || g.Turn != f.Turn+2 || g.Session != f.Session) {
			t.Fatalf("the answer to the answer to %+v: %+v, %d", f, g, e)
		}
		if (answer.Turn%2 == 1) != (answer.From != answer.Session.Opener) {
			t.Fatalf("turn %d is from %d, the Opener is %d", answer.Turn, answer.From, answer.Session.Opener)
		}
	}
}
