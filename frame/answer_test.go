package frame_test

import (
	"math"
	"math/rand/v2"
	"testing"

	"tideline/api"
	"tideline/frame"
)

// isFrame holds what First or Answer tells against the frame that it should be, or against the error with nothing beside.
func isFrame(t *testing.T, what string, f api.Frame, e api.Errno, want api.Frame, wrong api.Errno) {
	t.Helper()
	if wrong != api.OK {
		want = api.Frame{}
	}
	if e != wrong || !alike(f, want) {
		t.Errorf("%s: %+v, %d, want %+v, %d", what, f, e, want, wrong)
	}
}

// P11.4: the chapter's examples.
func TestFirstAndAnswerOfTheExamples(t *testing.T) {
	f, e := frame.First(2, s(), api.Tally{})
	isFrame(t, "First", f, e, api.Frame{From: 1, To: 2, Session: s(), Parts: parts(w())}, api.OK)
	g, e := frame.Answer(f, nil)
	isFrame(t, "Answer", g, e, api.Frame{From: 2, To: 1, Session: s(), Turn: 1}, api.OK)
	if !frame.Closing(g) || frame.Closing(f) {
		t.Error("the answer is the closing frame, the first one is not")
	}
	f, e = frame.First(1, s(), api.Tally{})
	isFrame(t, "First with itself", f, e, api.Frame{}, api.ErrEnds)
	f, e = frame.First(2, s(), tally(-1, 0, 0))
	isFrame(t, "First with a Count below 0", f, e, api.Frame{}, api.ErrTally)
}

// P11.4
func TestFirst(t *testing.T) {
	sums := []api.Tally{{}, tally(1, 0, 0), tally(mostEntries, 1, math.MaxUint64), tally(mostEntries+1, 0, 0), tally(-1, 0, 0), tally(0, 1, 0), tally(0, 0, 1), tally(math.MinInt, 0, 0), tally(math.MaxInt, 1, 1)}
	nodes := []int{math.MinInt, -1, 0, 1, 6, 7, 8, math.MaxInt}
	numbers := []int{math.MinInt, -1, 0, 1, 300, mostLives, mostLives + 1, math.MaxInt}
	for _, peer := range nodes {
		for _, opener := range nodes {
			for _, life := range numbers {
				for _, number := range numbers {
					for _, sum := range sums {
						n := name(opener, life, number)
						want := api.Frame{From: opener, To: peer, Session: n, Turn: 0, Parts: parts(print(whole(), sum))}
						f, e := frame.First(peer, n, sum)
						isFrame(t, "First", f, e, want, plainCheck(want))
					}
				}
			}
		}
	}
}

// P11.4: of two that are wrong Check's first is told.
func TestFirstWithTwoWrongs(t *testing.T) {
	for _, x := range []struct {
		peer int
		n    api.Name
		sum  api.Tally
		want api.Errno
	}{
		{8, name(1, 0, 1), tally(-1, 0, 0), api.ErrEnds},
		{2, name(8, 0, 1), tally(0, 0, 0), api.ErrEnds},
		{-1, s(), tally(0, 1, 0), api.ErrEnds},
		{1, name(1, 1, 0), tally(0, 0, 0), api.ErrEnds},
		{2, name(1, 1, 0), tally(257, 0, 0), api.ErrName},
		{2, name(1, mostLives+1, 1), tally(-1, 0, 0), api.ErrName},
		{2, s(), tally(257, 0, 0), api.ErrTally},
	} {
		f, e := frame.First(x.peer, x.n, x.sum)
		isFrame(t, "First", f, e, api.Frame{}, x.want)
	}
}

// answer is what Answer should tell, with its error.
func answer(f api.Frame, l []api.Part) (api.Frame, api.Errno) {
	if e := plainCheck(f); e != api.OK {
		return api.Frame{}, e
	}
	g := api.Frame{From: f.To, To: f.From, Session: f.Session, Turn: f.Turn + 1, Parts: l}
	return g, plainCheck(g)
}

// P11.4
func TestAnswer(t *testing.T) {
	for _, f := range goodFrames() {
		for _, l := range goodParts() {
			want, wrong := answer(f, l)
			if wrong != api.OK && f.Turn != lastTurn {
				t.Fatalf("no answer of good parts to turn %d: %d", f.Turn, wrong)
			}
			g, e := frame.Answer(f, l)
			isFrame(t, "Answer", g, e, want, wrong)
		}
	}
}

// P11.4: a frame that may not be is not answered; its error is told ahead of that of the parts.
func TestAnswerToWrongFrames(t *testing.T) {
	for _, f := range wrongFrames() {
		for _, l := range [][]api.Part{nil, {w()}, {api.Part{}}, {items(rng("b", "a"))}, prints(mostParts + 1)} {
			g, e := frame.Answer(f, l)
			isFrame(t, "Answer", g, e, api.Frame{}, plainCheck(f))
		}
	}
	for _, x := range wrongs() {
		f := said(0, w())
		x.make(&f)
		g, e := frame.Answer(f, parts(reply(whole())))
		isFrame(t, "Answer to one with a wrong "+x.what, g, e, api.Frame{}, x.e)
	}
}

// P11.4
func TestAnswerWithWrongParts(t *testing.T) {
	for _, f := range []api.Frame{said(0, w()), said(1), said(2, w()), said(lastTurn - 1)} {
		for kind := 1; kind <= 3; kind++ {
			for _, x := range flaws() {
				if !x.fits(kind) {
					continue
				}
				l := between(kind)
				x.make(&l[1])
				g, e := frame.Answer(f, l)
				isFrame(t, "Answer with "+x.what, g, e, api.Frame{}, x.e)
			}
		}
		for _, l := range [][]api.Part{prints(mostParts + 1), withEntries(mostParts, mostEntries+1)} {
			g, e := frame.Answer(f, l)
			isFrame(t, "Answer with too many", g, e, api.Frame{}, api.ErrMany)
		}
	}
}

// P11.4: there is no answer to the last turn, and that is told ahead of what is wrong with the parts.
func TestAnswerToTheLastTurn(t *testing.T) {
	for _, l := range [][]api.Part{nil, {}, {w()}, {api.Part{}}, prints(mostParts + 1), {reply(whole())}} {
		g, e := frame.Answer(said(lastTurn), l)
		isFrame(t, "Answer", g, e, api.Frame{}, api.ErrTurn)
	}
	g, e := frame.Answer(said(lastTurn-1), nil)
	isFrame(t, "Answer", g, e, said(lastTurn), api.OK)
}

// P11.4: any frames with any parts, held against the second reading.
func TestAnyAnswers(t *testing.T) {
	rnd := rand.New(rand.NewPCG(11, 4))
	through := 0
	for range 100000 {
		f, l := someFrame(rnd), someParts(rnd)
		want, wrong := answer(f, l)
		g, e := frame.Answer(f, l)
		isFrame(t, "Answer", g, e, want, wrong)
		if t.Failed() {
			return
		}
		if e == api.OK {
			through++
		}
	}
	if through < 1000 {
		t.Errorf("only %d answers", through)
	}
}
