package frame_test

import (
	"math"
	"slices"
	"testing"

	"tideline/api"
	"tideline/frame"
)

// P11.5: a clone of any frame is the same frame.
func TestClone(t *testing.T) {
	for _, f := range append(slices.Concat(goodFrames(), wrongFrames()), full()) {
		was := copied(f)
		g := frame.Clone(f)
		if !alike(g, was) || !alike(f, was) || !frame.Same(f, g) {
			t.Errorf("Clone(%+v): %+v", was, g)
		}
		if frame.Closing(g) != frame.Closing(f) || frame.Entries(g) != frame.Entries(f) || frame.Check(g) != frame.Check(f) {
			t.Errorf("Clone(%+v) is another frame", was)
		}
	}
}

// roomy is a copy of f whose lists have spare room, with parts and entries in it.
func roomy(f api.Frame) api.Frame {
	g := copied(f)
	for i, p := range g.Parts {
		g.Parts[i].Entries = append(p.Entries, at("spare"), at("room"))[:len(p.Entries)]
	}
	g.Parts = append(g.Parts, items(rng("spare", "t"), at("spare")), api.Part{})[:len(g.Parts)]
	return g
}

// everything is a copy of all that f's lists have, with what lies behind their lengths.
func everything(f api.Frame) api.Frame {
	f.Parts = slices.Clone(f.Parts[:cap(f.Parts)])
	for i, p := range f.Parts {
		f.Parts[i].Entries = slices.Clone(p.Entries[:cap(p.Entries)])
	}
	return f
}

// spoil writes over all that f's lists have, and over their spare room.
func spoil(f api.Frame) {
	l := f.Parts[:cap(f.Parts)]
	for i := range l {
		entries := l[i].Entries[:cap(l[i].Entries)]
		for j := range entries {
			entries[j] = entry("spoilt", math.MaxInt, -1, "spoilt")
		}
		l[i] = api.Part{Kind: 99, Range: rng("spoilt", ""), Tally: tally(-1, 1, 1)}
	}
}

// R3: a clone, and what it was made of, both changed afterwards.
func TestClonesAreApart(t *testing.T) {
	for _, f := range append(slices.Concat(goodFrames(), wrongFrames()), full()) {
		was := copied(f)
		own := roomy(f)
		all := everything(own)
		g := frame.Clone(own)
		if !alike(everything(own), all) {
			t.Fatalf("Clone(%+v) changed it", was)
		}
		h := frame.Clone(own)
		spoil(g)
		if !alike(everything(own), all) || !alike(h, was) {
			t.Fatalf("a clone of %+v was changed, and something else with it", was)
		}
		spoil(own)
		if !alike(h, was) {
			t.Fatalf("%+v was changed, and its clone with it", was)
		}
	}
}

// R3: each list of a clone has memory of its own, also where the lists that it was made of share theirs.
func TestListsOfClonesAreApart(t *testing.T) {
	shared := under("a", "b", "c", "d")
	for _, l := range [][]api.Part{
		{items(rng("a", "c"), shared[:2]...), reply(rng("c", "e"), shared[2:]...)},
		{items(whole(), shared...), reply(whole(), shared...)},
		{items(whole(), shared[:0]...), reply(whole(), shared...), items(whole(), shared[1:]...)},
	} {
		f := said(2, l...)
		was := copied(f)
		for i := range l {
			g := frame.Clone(f)
			p := &g.Parts[i]
			p.Entries = append(p.Entries, entry("more", 9, 9, ""))
			for j := range p.Entries {
				p.Entries[j] = entry("spoilt", -1, 0, "")
			}
			for j := range l {
				if j != i && !alikeParts(g.Parts[j], was.Parts[j]) {
					t.Errorf("part %d was changed, and part %d with it", i, j)
				}
			}
		}
		if !alike(f, was) {
			t.Error("clones were changed, and what they were made of with them")
		}
	}
}

// R3: what is handed in to Answer is neither changed nor kept, and no answer shares memory with it.
func TestAnswersAreNew(t *testing.T) {
	for _, f := range []api.Frame{said(0, w()), said(1, withEntries(3, 3)...), said(6, prints(5)...), said(7)} {
		for _, l := range goodParts() {
			own, handed := roomy(f), roomy(api.Frame{Parts: l})
			allOfOwn, allOfHanded := everything(own), everything(handed)
			g, e := frame.Answer(own, handed.Parts)
			again, _ := frame.Answer(own, handed.Parts)
			if e != api.OK || !alike(everything(own), allOfOwn) || !alike(everything(handed), allOfHanded) {
				t.Fatalf("Answer(%+v, %d parts): %d; what was handed in was changed", f, len(l), e)
			}
			spoil(again)
			if !alike(everything(own), allOfOwn) || !alike(everything(handed), allOfHanded) {
				t.Fatalf("an answer was changed, and what was handed in with it")
			}
			want := api.Frame{From: f.To, To: f.From, Session: f.Session, Turn: f.Turn + 1, Parts: l}
			spoil(own)
			spoil(handed)
			if !alike(g, want) {
				t.Fatalf("what was handed in was changed, and an answer with it: %+v", g)
			}
		}
	}
}

// R3: the entries of an answer's parts lie apart, also where those that were handed in are pieces of one list.
func TestPartsOfAnswersAreApart(t *testing.T) {
	shared := under("a", "b", "c", "d")
	l := parts(items(rng("a", "c"), shared[:2]...), reply(rng("c", "e"), shared[2:]...))
	was := copied(api.Frame{Parts: l})
	g, e := frame.Answer(said(0, w()), l)
	if e != api.OK {
		t.Fatal(e)
	}
	_ = append(g.Parts[0].Entries, entry("more", 9, 9, ""), entry("more", 9, 9, ""))
	if !alikeParts(g.Parts[1], was.Parts[1]) || !alike(api.Frame{Parts: l}, was) {
		t.Error("one part's entries run over another one's")
	}
}

// R3: with an error nothing that was handed in is changed either.
func TestRefusedAnswersChangeNothing(t *testing.T) {
	for _, f := range slices.Concat(wrongFrames(), []api.Frame{said(lastTurn), said(2)}) {
		own, handed := roomy(f), roomy(api.Frame{Parts: parts(reply(rng("a", "b"), at("b")))})
		allOfOwn, allOfHanded := everything(own), everything(handed)
		if _, e := frame.Answer(own, handed.Parts); e == api.OK {
			t.Errorf("Answer(%+v): OK", f)
		}
		if !alike(everything(own), allOfOwn) || !alike(everything(handed), allOfHanded) {
			t.Errorf("Answer(%+v): what was handed in was changed", f)
		}
	}
}

// R3, R5: asked twice First tells the same frame, in other memory.
func TestFirstFramesAreApart(t *testing.T) {
	f, _ := frame.First(2, s(), tally(3, 4, 5))
	g, _ := frame.First(2, s(), tally(3, 4, 5))
	spoil(f)
	h, _ := frame.First(2, s(), tally(3, 4, 5))
	if want := said(0, print(whole(), tally(3, 4, 5))); !alike(g, want) || !alike(h, want) {
		t.Errorf("First: %+v, then %+v, want %+v", g, h, want)
	}
}
