package session_test

import (
	"math"
	"slices"
	"testing"

	"tideline/api"
	"tideline/frame"
)

// roomy is a copy of a frame whose lists have spare room, as much as an answer may need, with parts and entries in it.
func roomy(f api.Frame) api.Frame {
	spareEntries := slices.Repeat(list(at("spare")), 40)
	spareParts := slices.Repeat(parts(items(rng("spare", "t"), at("spare"))), 40)
	l := slices.Clone(f.Parts)
	for i, p := range l {
		l[i].Entries = slices.Concat(p.Entries, spareEntries)[:len(p.Entries)]
	}
	f.Parts = slices.Concat(l, spareParts)[:len(l)]
	return f
}

// everything is a copy of all that a frame's lists have, with what lies behind their lengths.
func everything(f api.Frame) api.Frame {
	f.Parts = slices.Clone(f.Parts[:cap(f.Parts)])
	for i, p := range f.Parts {
		f.Parts[i].Entries = slices.Clone(p.Entries[:cap(p.Entries)])
	}
	return f
}

// copied is a copy of a frame with lists of its own.
func copied(f api.Frame) api.Frame {
	f.Parts = slices.Clone(f.Parts)
	for i, p := range f.Parts {
		f.Parts[i].Entries = slices.Clone(p.Entries)
	}
	return f
}

func copiedAll(l []api.Frame) []api.Frame {
	var all []api.Frame
	for _, f := range l {
		all = append(all, copied(f))
	}
	return all
}

// spoil writes over all that a frame's lists have, and over their spare room.
func spoil(f api.Frame) {
	l := f.Parts[:cap(f.Parts)]
	for i := range l {
		entries := l[i].Entries[:cap(l[i].Entries)]
		for j := range entries {
			entries[j] = entry("spoilt", math.MaxInt, -1, "spoilt")
		}
		l[i] = api.Part{Kind: 99, Range: rng("spoilt", ""), Tally: tally(-1, 1, 1)}
	}
}

// spoilAll writes over a list of frames, and over its spare room.
func spoilAll(l []api.Frame) {
	for i := range l[:cap(l)] {
		spoil(l[:cap(l)][i])
		l[:cap(l)][i] = api.Frame{From: -1, Turn: -1}
	}
}

// handed are parts of all kinds, in turn, to which a side with the odd keys has something to say each time but the last.
func handed() [][]api.Part {
	return [][]api.Part{
		{other(whole())},
		{items(whole(), under(oddKeys()[3:12], 4)...)},
		{items(from("a"))},
		{
			other(rng("", "A")),
			items(rng("A", "aa"), under([]string{"a", "a\x00"}, 9)...),
			other(rng("aa", "b")),
			reply(rng("c", "k"), under([]string{"c", "d"}, 0)...),
			items(rng("k", "\xFF")),
		},
		{reply(whole(), under(oddKeys()[2:], 4)...)},
	}
}

// R3: what is handed to Hear is neither changed nor kept, and what it answers is new memory: all are written over at once, and the desk goes on as its second reading does, which keeps copies.
func TestFramesAreApart(t *testing.T) {
	for _, leaf := range []int{1, 5, 32} {
		p := newPair(t, 3, under(oddKeys(), 0), config(3, leaf, 3, 2), 1)
		last := map[api.Name]api.Frame{}
		hand := func(f api.Frame) {
			t.Helper()
			own := roomy(f)
			was := everything(own)
			answer, is, h, e := p.d.Hear(own)
			if !frame.Same(everything(own), was) {
				t.Fatalf("Hear(%s): the frame was changed", brief(f))
			}
			want, wantIs, wantHeard, wantError := p.also.hear(copied(f))
			spoil(own)
			if !frame.Same(answer, want) || is != wantIs || h != wantHeard || e != wantError || e != api.OK {
				t.Fatalf("Hear(%s): %s, %v, %v, %d, want %s, %v, %v, %d", brief(f), brief(answer), is, h, e, brief(want), wantIs, wantHeard, wantError)
			}
			last[f.Session] = copied(want)
			spoil(answer)
			p.isOne(t, "spoilt")
		}
		f := opened(t, p.d, 5)
		want, _ := p.also.open(5)
		last[f.Session] = copied(want)
		spoil(f)
		begin := first(name(6, 1, 1), 3, other(whole()))
		hand(begin)
		hand(begin)
		for _, l := range handed() {
			for _, n := range []api.Name{name(3, 1, 1), name(6, 1, 1)} {
				f := back(last[n], l...)
				hand(f)
				hand(f)
			}
			p.tick(t)
		}
		p.settled(t)
	}
}

// R3: what Tick tells is new memory: written over, it changes neither what goes out next time, nor anything else.
func TestTickIsApart(t *testing.T) {
	p := newPair(t, 3, under(oddKeys(), 0), config(3, 5, 1, 4), 1)
	for _, n := range []api.Name{name(5, 1, 1), name(6, 1, 1), name(7, 1, 1)} {
		p.hear(t, first(n, 3, other(whole())))
		p.hear(t, api.Frame{From: n.Opener, To: 3, Session: n, Turn: 2, Parts: parts(items(from("a")))})
	}
	p.open(t, 5)
	for range 4 {
		l, lost := p.tick(t)
		want := copiedAll(l)
		if len(l) != 4 || len(lost) != 0 {
			t.Fatal(briefly(l), lost)
		}
		// No two of one answer share any: each is written over alone.
		for i := range l {
			spoil(l[i])
			l[i] = copied(want[i])
			if !slices.EqualFunc(l, want, frame.Same) {
				t.Fatalf("the frame %d was changed, and another one with it: %s", i, briefly(l))
			}
		}
		spoilAll(l)
		p.isOne(t, "spoilt")
		again, _, _, e := p.hear(t, first(name(5, 1, 1), 3, other(whole())))
		if e != api.ErrStale || !frame.Same(again, api.Frame{}) {
			t.Fatal(brief(again), e)
		}
	}
	l, lost := p.tick(t)
	if len(l) != 0 || len(lost) != 4 {
		t.Fatal(briefly(l), lost)
	}
	for i := range lost[:cap(lost)] {
		lost[:cap(lost)][i] = name(-1, -1, -1)
	}
	p.settled(t)
}

// R3: what Talks tells is new memory each time.
func TestTalksIsApart(t *testing.T) {
	p := newPair(t, 3, many(9), plainConfig(), 1)
	for i := range 5 {
		p.open(t, 5)
		p.hear(t, agreeing(t, name(6, 1, i+1), p.s))
		l := p.d.Talks()
		for j := range l[:cap(l)] {
			l[:cap(l)][j] = api.Talk{Session: name(9, 9, 9), Peer: -1, Turn: -1, Tries: 99, Over: true}
		}
		p.isOne(t, "spoilt")
	}
	was := p.d.Talks()
	want := slices.Clone(was)
	p.wait(t, 6)
	p.open(t, 5)
	if !slices.Equal(was, want) {
		t.Error(was)
	}
}

// R3: what is done since changes nothing of what was answered: neither frames, nor lists of them.
func TestAnswersStayAsTheyWere(t *testing.T) {
	for _, x := range states() {
		p := x.make(t)
		var all, want []api.Frame
		keep := func(l ...api.Frame) {
			all = append(all, l...)
			want = append(want, copiedAll(l)...)
		}
		f, _ := p.open(t, 5)
		keep(f)
		answer, _, _, _ := p.hear(t, back(f, other(whole())))
		keep(answer)
		for range 10 {
			l, _ := p.tick(t)
			keep(l...)
		}
		for _, key := range numbered(0, 20) {
			p.s.Put(key, "later")
			p.also.s.Put(key, "later")
		}
		for i := range 20 {
			f, _ := p.open(t, 5)
			p.hear(t, back(f, items(whole(), at("new"+string(rune('a'+i))))))
			p.tick(t)
		}
		if !slices.EqualFunc(all, want, frame.Same) {
			t.Errorf("%s: %s, they were %s", x.what, briefly(all), briefly(want))
		}
	}
}

// R3: with an error nothing that was handed in is changed either.
func TestRefusedFramesAreNotChanged(t *testing.T) {
	for _, x := range states() {
		p := x.make(t)
		for _, f := range frames(first(name(5, 1, 1), 3, other(whole())), api.Frame{From: 5, To: 3, Session: name(5, 2, 3), Turn: 2}) {
			for _, wrong := range append(flaws(f), flawed{"stale", turned(f, 40, items(whole(), at("new"))), api.ErrStale}) {
				own := roomy(wrong.f)
				was := everything(own)
				hearRefuses(t, wrong.what, p.d, p.s, own, wrong.e)
				if !frame.Same(everything(own), was) {
					t.Errorf("%s: it was changed: %s", wrong.what, brief(own))
				}
			}
		}
	}
}

// R5: desks to which the same happened tell the same, whatever else was asked of them meanwhile.
func TestOneAnswer(t *testing.T) {
	for range 20 {
		p, q := newPair(t, 3, many(9), plainConfig(), 6), newPair(t, 3, many(9), plainConfig(), 6)
		beginAll(t, p, namesOfAllSorts())
		for _, n := range namesOfAllSorts() {
			q.d.Talks()
			q.d.Hear(first(name(5, 1, 1), 4, other(whole())))
			q.d.Open(3)
			beginAll(t, q, []api.Name{n})
		}
		for range 7 {
			l, lost := p.d.Tick()
			m, alsoLost := q.d.Tick()
			if !slices.EqualFunc(l, m, frame.Same) || !slices.Equal(lost, alsoLost) || !slices.Equal(p.d.Talks(), q.d.Talks()) {
				t.Fatalf("%s, %v; %s, %v", briefly(l), lost, briefly(m), alsoLost)
			}
		}
	}
}
