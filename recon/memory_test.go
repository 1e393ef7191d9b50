package recon_test

import (
	"math"
	"slices"
	"testing"

	"tideline/api"
	"tideline/frame"
	"tideline/recon"
)

// roomy is a copy of a frame whose lists have spare room, as much as an answer may need, with parts and entries in it.
func roomy(f api.Frame) api.Frame {
	spareEntries := slices.Repeat(list(at("spare")), 40)
	spareParts := slices.Repeat(parts(items(rng("spare", "t"), at("spare"))), 40)
	l := slices.Clone(f.Parts)
	for i, p := range l {
		l[i].Entries = slices.Concat(p.Entries, spareEntries)[:len(p.Entries)]
	}
	f.Parts = slices.Concat(l, spareParts)[:len(l)]
	return f
}

// everything is a copy of all that a frame's lists have, with what lies behind their lengths.
func everything(f api.Frame) api.Frame {
	f.Parts = slices.Clone(f.Parts[:cap(f.Parts)])
	for i, p := range f.Parts {
		f.Parts[i].Entries = slices.Clone(p.Entries[:cap(p.Entries)])
	}
	return f
}

// copied is a copy of a frame with lists of its own.
func copied(f api.Frame) api.Frame {
	f.Parts = slices.Clone(f.Parts)
	for i, p := range f.Parts {
		f.Parts[i].Entries = slices.Clone(p.Entries)
	}
	return f
}

// spoil writes over all that a frame's lists have, and over their spare room.
func spoil(f api.Frame) {
	l := f.Parts[:cap(f.Parts)]
	for i := range l {
		entries := l[i].Entries[:cap(l[i].Entries)]
		for j := range entries {
			entries[j] = entry("spoilt", math.MaxInt, -1, "spoilt")
		}
		l[i] = api.Part{Kind: 99, Range: rng("spoilt", ""), Tally: tally(-1, 1, 1)}
	}
}

// handed are parts of all kinds that a side with the odd keys answers, some of them each time, with entries and without.
func handed() [][]api.Part {
	return [][]api.Part{
		{other(whole())},
		{items(whole(), under(oddKeys()[3:12], 4)...)},
		{items(from("a"))},
		{print(whole(), api.Tally{})},
		{
			other(rng("", "A")),
			items(rng("A", "aa"), under([]string{"a", "a\x00"}, 9)...),
			other(rng("aa", "b")),
			items(rng("b", "c"), under([]string{"b", "bb"}, 0)...),
			reply(rng("c", "k"), under([]string{"c", "d"}, 0)...),
			items(rng("k", "\xFF")),
			print(from("\xFF"), api.Tally{}),
		},
		{reply(whole(), under(oddKeys()[2:], 4)...)},
	}
}

// each goes through what both sides, with leaves that tell entries, are handed turn by turn, the last time closing.
func each(t *testing.T, do func(x side, f api.Frame)) {
	t.Helper()
	for _, leaf := range []int{1, 5, 32} {
		opener, peer := bothSides(t, config(3, leaf), under(oddKeys(), 0))
		for _, x := range []side{opener, peer} {
			for _, l := range handed() {
				do(x, next(x.x, l...))
			}
			if !x.x.Closed() {
				t.Fatal(told(look(x.x)))
			}
		}
	}
}

// R3: what is handed in is not changed, nor what lies behind the lists' lengths.
func TestFramesAreNotChanged(t *testing.T) {
	each(t, func(x side, f api.Frame) {
		own := roomy(f)
		was := everything(own)
		heard(t, x.x, own)
		heard(t, x.x, own)
		if !frame.Same(everything(own), was) {
			t.Fatalf("%s: the frame is %s", x.what, brief(own))
		}
	})
	for _, held := range sampleMaps() {
		own := roomy(api.Frame{From: 3, To: 5, Session: name(3, 1, 1), Parts: parts(other(whole()))})
		was := everything(own)
		joined(t, holding(t, 5, held), config(2, 1), own)
		if !frame.Same(everything(own), was) {
			t.Fatalf("Join: the frame is %s", brief(own))
		}
	}
}

// R3: what was handed in is not kept: changed afterwards, it changes neither the answer, nor the talk, nor the store.
func TestFramesAreNotKept(t *testing.T) {
	each(t, func(x side, f api.Frame) {
		own := roomy(f)
		answer, is, _ := heard(t, x.x, own)
		was := copied(answer)
		quiet(t, x.what, x.x, x.s, func() { spoil(own) })
		if !is || !frame.Same(answer, was) || !frame.Same(x.x.Last(), was) {
			t.Fatalf("%s: the frame was changed, and the answer is %s, the last one %s", x.what, brief(answer), brief(x.x.Last()))
		}
		for _, e := range heldBy(t, x.s) {
			if e.Key == "spoilt" || e.Key == "spare" {
				t.Fatalf("%s: %s is held", x.what, quoted(e))
			}
		}
	})
	for _, held := range sampleMaps() {
		own := roomy(api.Frame{From: 3, To: 5, Session: name(3, 1, 1), Parts: parts(other(whole()))})
		s := holding(t, 5, held)
		x, answer := joined(t, s, config(2, 1), own)
		was := copied(answer)
		quiet(t, "Join", x, s, func() { spoil(own) })
		if !frame.Same(answer, was) {
			t.Fatalf("Join: the frame was changed, and the answer is %s", brief(answer))
		}
	}
}

// R3: what comes out is new memory each time: changed afterwards, it changes neither the talk, nor the store, nor another one.
func TestAnswersAreApart(t *testing.T) {
	each(t, func(x side, f api.Frame) {
		own := roomy(f)
		was := everything(own)
		answer, _, _ := heard(t, x.x, own)
		want := copied(answer)
		again, is, _ := heard(t, x.x, own)
		last := x.x.Last()
		for _, out := range []api.Frame{answer, again, last} {
			if !is || !frame.Same(out, want) {
				t.Fatalf("%s: %s, %v, want %s", x.what, brief(out), is, brief(want))
			}
			quiet(t, x.what, x.x, x.s, func() { spoil(out) })
			if !frame.Same(everything(own), was) || !frame.Same(x.x.Last(), want) {
				t.Fatalf("%s: an answer was changed, and something else with it", x.what)
			}
		}
		if third, is, _ := heard(t, x.x, own); !is || !frame.Same(third, want) {
			t.Fatalf("%s: an answer was changed; asked again: %s, %v, want %s", x.what, brief(third), is, brief(want))
		}
	})
}

// R3: the frames of Start and of Join are apart from their talks, too.
func TestFirstAnswersAreApart(t *testing.T) {
	for _, held := range sampleMaps() {
		for _, c := range sampleConfigs() {
			s3, s5 := holding(t, 3, many(40)), holding(t, 5, held)
			x, first := opened(t, s3, c, 5, 1, 1)
			want := copied(first)
			y, second := joined(t, s5, c, first)
			wantSecond := copied(second)
			quiet(t, "Start", x, s3, func() { spoil(first) })
			if !frame.Same(x.Last(), want) || !frame.Same(second, wantSecond) {
				t.Fatalf("the first frame was changed: %s, %s", brief(x.Last()), brief(second))
			}
			quiet(t, "Join", y, s5, func() { spoil(second) })
			if again, is, _ := heard(t, y, want); !is || !frame.Same(again, wantSecond) {
				t.Fatalf("the second frame was changed: %s, %v", brief(again), is)
			}
			spoil(x.Last())
			spoil(y.Last())
			if !frame.Same(x.Last(), want) || !frame.Same(y.Last(), wantSecond) {
				t.Fatalf("a last frame was changed: %s, %s", brief(x.Last()), brief(y.Last()))
			}
		}
	}
}

// R3: no two lists of one answer share memory, their spare room either.
func TestListsOfAnswersAreApart(t *testing.T) {
	apart := func(answer api.Frame) {
		want := copied(answer)
		for i := range answer.Parts {
			l := answer.Parts[i].Entries
			l = l[:cap(l)]
			for j := range l {
				l[j] = entry("spoilt", -1, 0, "")
			}
			answer.Parts[i] = copied(want).Parts[i]
			if !frame.Same(answer, want) {
				t.Fatalf("part %d was changed, and another one with it: %s", i, brief(answer))
			}
		}
	}
	each(t, func(x side, f api.Frame) {
		answer, _, _ := heard(t, x.x, f)
		again, _, _ := heard(t, x.x, f)
		apart(answer)
		apart(again)
		apart(x.x.Last())
	})
}

// R3: a session all of whose frames are changed as soon as they have been handed on goes as one whose frames are not.
func TestSessionOfSpoiltFrames(t *testing.T) {
	for _, b := range sampleMaps() {
		for _, c := range sampleConfigs() {
			a := under(numbered(3, 60), 800)
			m := &meeting{s3: holding(t, 3, a), s5: holding(t, 5, b)}
			var f api.Frame
			handedOn := func(out api.Frame) {
				m.frames = append(m.frames, copied(out))
				f = roomy(out)
				spoil(out)
				spoil(m.x.Last())
				if m.y != nil {
					spoil(m.y.Last())
				}
			}
			x, first := opened(t, m.s3, c, 5, 1, 1)
			m.x = x
			handedOn(first)
			y, second := joined(t, m.s5, c, f)
			m.y = y
			spoil(f)
			for out, is := second, true; is; {
				handedOn(out)
				hearer, _ := m.awaits()
				var h api.Heard
				out, is, h = heard(t, hearer, f)
				m.all.Taken += h.Taken
				m.all.Refused += h.Refused
				spoil(f)
			}
			sameSession(t, m, begun(t, a, b, c, c).through(t))
		}
	}
}

// R3: what is done to the store since is not seen in an answer, nor in the last frame.
func TestAnswersStayAsTheyWere(t *testing.T) {
	each(t, func(x side, f api.Frame) {
		answer, _, _ := heard(t, x.x, f)
		want := copied(answer)
		for _, key := range append(numbered(0, 20), oddKeys()...) {
			if _, e := x.s.Put(key, "later"); e != api.OK {
				t.Fatal(e)
			}
		}
		if !frame.Same(answer, want) || !frame.Same(x.x.Last(), want) {
			t.Fatalf("%s: %s, the last one %s; it was %s", x.what, brief(answer), brief(x.x.Last()), brief(want))
		}
	})
}

// R4: what a part's kind does not have is zero, and a frame that is none is the zero one.
func TestOtherFieldsAreZero(t *testing.T) {
	each(t, func(x side, f api.Frame) {
		answer, _, _ := heard(t, x.x, f)
		for _, p := range answer.Parts {
			if p.Kind == api.PartPrint && len(p.Entries) > 0 || p.Kind != api.PartPrint && p.Tally != (api.Tally{}) {
				t.Fatalf("%s: %s", x.what, brief(answer))
			}
		}
	})
}

// R5: two sides that hold the same answer the same, however they came to hold it, whatever else was asked of their talks.
func TestOneAnswer(t *testing.T) {
	l := under(oddKeys(), 5)
	taken, loaded := holding(t, 3, nil), holding(t, 3, l)
	for _, e := range slices.Backward(l) {
		taken.Take(entry(e.Key, 1, 0, "first"))
		taken.Take(e)
	}
	x, _ := opened(t, taken, api.Config{Branch: 3, Leaf: 5, Wait: 1, Tries: 0}, 5, 2, 7)
	y, _ := opened(t, loaded, api.Config{Branch: 3, Leaf: 5, Wait: 100, Tries: 20}, 5, 2, 7)
	for _, l := range handed() {
		f := next(x, l...)
		x.Hear(next(y, append(l, l...)...))
		x.Hear(to(x, x.Last().Turn-1))
		one, is, h := heard(t, x, f)
		two, also, h2 := heard(t, y, f)
		if !frame.Same(one, two) || is != also || h != h2 {
			t.Fatalf("%s, %v, %v; %s, %v, %v", brief(one), is, h, brief(two), also, h2)
		}
		isSeen(t, "both", x, look(y))
	}
	isAs(t, "both", taken, 3, loaded.Clock(), heldBy(t, loaded))
}

// R1: no call panics, whatever it is handed.
func TestNothingPanics(t *testing.T) {
	s := holding(t, 3, many(most))
	x, _ := opened(t, s, config(2, 1), 5, 1, 1)
	for _, n := range []int{math.MinInt, -1, 0, 1, 2, 3, lastTurn, lastTurn + 1, math.MaxInt} {
		for _, l := range [][]api.Part{nil, {{}}, {other(whole())}, make([]api.Part, 2000)} {
			f := api.Frame{From: n, To: n, Session: name(n, n, n), Turn: n, Parts: l}
			x.Hear(f)
			recon.Join(s, api.Config{Branch: n, Leaf: n, Wait: n, Tries: n}, f)
			f = to(x, n, l...)
			quiet(t, "a frame", x, s, func() {
				if n != x.Last().Turn+1 {
					x.Hear(f)
				}
			})
			recon.Join(s, config(2, 1), f)
			recon.Start(s, api.Config{Branch: n, Leaf: n, Wait: n, Tries: n}, n, n, n)
			recon.Start(s, config(2, 1), n, n, n)
		}
	}
}
