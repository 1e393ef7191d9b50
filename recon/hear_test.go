package recon_test

import (
	"testing"

	"tideline/api"
	"tideline/frame"
	"tideline/store"
)

// pairs are talks of both sides at their first turn, with their second readings, that hold these entries.
func pairs(t *testing.T, c api.Config, l []api.Entry) []pair {
	t.Helper()
	first := api.Frame{From: 3, To: 5, Session: name(3, 2, 7), Parts: parts(other(whole()))}
	return []pair{startPair(t, 3, l, c, 5, 2, 7), joinPair(t, 5, l, c, first)}
}

// moved has the pair come to that turn, by Prints that it does not agree with.
func (p pair) moved(t *testing.T, turn int) pair {
	t.Helper()
	for p.x.Last().Turn < turn {
		if _, is, _, e := p.hear(t, next(p.x, other(whole()))); !is || e != api.OK {
			t.Fatal(is, e)
		}
	}
	return p
}

// P14.4: of all turns just the one behind the last frame's is awaited, just the one ahead of it has come again; the others are stale, those of the side's own turns no turn of the sender.
func TestEachTurn(t *testing.T) {
	for turn := 0; turn < lastTurn; turn++ {
		opener, peer := bothSides(t, config(2, 1), many(3))
		x := []side{opener, peer}[turn%2]
		upTo(t, x.x, turn)
		for other := -3; other <= lastTurn+3; other++ {
			f := to(x.x, other, items(whole(), entry("new", 77, 0, "")))
			switch {
			case other < 0 || other > lastTurn || other%2 == turn%2:
				hearRefuses(t, "no turn of the sender", x.x, x.s, f, api.ErrTurn)
			case other == 0:
				// Items are nothing that a frame of turn 0 says, also where that has come again.
				hearRefuses(t, "no first frame", x.x, x.s, f, api.ErrPart)
			case other == turn-1:
				quiet(t, "again", x.x, x.s, func() {
					if answer, is, h := heard(t, x.x, f); !is || h != (api.Heard{}) || !frame.Same(answer, x.x.Last()) {
						t.Fatalf("turn %d at %d: %s, %v, %v", other, turn, brief(answer), is, h)
					}
				})
			case other != turn+1:
				hearRefuses(t, "stale", x.x, x.s, f, api.ErrStale)
			}
		}
		answer, is, h := heard(t, x.x, next(x.x, items(whole(), entry("new", 77, 0, ""))))
		if h != (api.Heard{Taken: 1}) || is != (turn+1 < lastTurn) {
			t.Fatalf("turn %d: %s, %v, %v", turn+1, brief(answer), is, h)
		}
	}
}

// P14.4: a frame of turn 0 that may be, at the peer: again at its first turn, stale later on.
func TestFirstFrameAgain(t *testing.T) {
	first := api.Frame{From: 3, To: 5, Session: name(3, 2, 7), Parts: parts(other(whole()))}
	for _, another := range []api.Part{other(whole()), print(whole(), api.Tally{}), print(whole(), plainTally(many(3)))} {
		_, peer := bothSides(t, config(2, 1), many(3))
		f := first
		f.Parts = parts(another)
		quiet(t, "again", peer.x, peer.s, func() {
			if answer, is, h := heard(t, peer.x, f); !is || h != (api.Heard{}) || !frame.Same(answer, peer.x.Last()) {
				t.Fatal(brief(answer), is, h)
			}
		})
		for turn := 3; turn <= lastTurn; turn += 2 {
			upTo(t, peer.x, turn)
			hearRefuses(t, "turn 0, later on", peer.x, peer.s, f, api.ErrStale)
		}
	}
}

// ending is a talk that is over.
type ending struct {
	side
	closed bool
}

// ends are such of both sides, by each way in which a talk comes to be over.
func ends(t *testing.T) []ending {
	t.Helper()
	var l []ending
	add := func(what string, closed bool, last api.Part, more ...api.Part) {
		opener, peer := bothSides(t, config(2, 1), many(3))
		upTo(t, opener.x, 4)
		upTo(t, peer.x, 5)
		for _, x := range []side{opener, peer} {
			heard(t, x.x, next(x.x, append(more, last)...))
			x.what += ", which " + what
			l = append(l, ending{x, closed})
		}
	}
	add("sent the closing frame", true, print(whole(), plainTally(many(3))))
	add("took, and sent the closing frame", true, reply(whole(), at("new")))
	add("had too much to say", false, tooMuch()[mostParts-1], tooMuch()[:mostParts-1]...)
	opener, peer := bothSides(t, config(2, 1), many(3))
	for _, x := range []side{opener, peer} {
		heard(t, x.x, next(x.x))
		x.what += ", which heard the closing frame"
		l = append(l, ending{x, true})
	}
	opener, _ = bothSides(t, config(2, 1), many(3))
	upTo(t, opener.x, lastTurn-1)
	heard(t, opener.x, next(opener.x, other(whole())))
	opener.what += ", which had no turn any more"
	return append(l, ending{opener, false})
}

// tooMuch are MaxParts Prints, of which one has two entries of the numbered keys at a side that holds the first ones.
func tooMuch() []api.Part {
	var l []api.Part
	for _, r := range lines(mostParts+1, 1)[1:] {
		l = append(l, other(r))
	}
	l[0].Range.Lo = ""
	return l
}

// P14.4: at a talk that is over, closed or not, nothing is awaited any more; the frame ahead of its last one comes again as before.
func TestOver(t *testing.T) {
	for _, x := range ends(t) {
		if !x.x.Over() || x.x.Closed() != x.closed {
			t.Fatalf("%s: %s", x.what, told(look(x.x)))
		}
		turn := x.x.Last().Turn
		for other := (turn + 1) % 2; other <= lastTurn; other += 2 {
			for _, l := range [][]api.Part{nil, parts(print(whole(), api.Tally{})), parts(reply(whole(), entry("new", 99, 0, ""))), parts(items(whole()))} {
				f := to(x.x, other, l...)
				switch {
				case frame.Check(f) != api.OK:
					hearRefuses(t, x.what, x.x, x.s, f, api.ErrPart)
				case other != turn-1:
					hearRefuses(t, x.what, x.x, x.s, f, api.ErrStale)
				default:
					quiet(t, x.what, x.x, x.s, func() {
						if answer, is, h := heard(t, x.x, f); !is || h != (api.Heard{}) || !frame.Same(answer, x.x.Last()) {
							t.Fatalf("%s: again: %s, %v, %v", x.what, brief(answer), is, h)
						}
					})
				}
			}
		}
	}
}

// P14.4: how often a frame comes again makes no difference, and what it says neither.
func TestAgainAndAgain(t *testing.T) {
	opener, peer := bothSides(t, config(2, 1), many(3))
	upTo(t, opener.x, 6)
	upTo(t, peer.x, 7)
	for _, x := range []side{opener, peer} {
		want := x.x.Last()
		for i := range 50 {
			l := [][]api.Part{nil, parts(other(whole())), parts(items(whole(), entry("new", 99, 0, ""))), parts(reply(rng("a", "b"), entry("a", 99, 0, ""))), tooMuch()}[i%5]
			quiet(t, x.what, x.x, x.s, func() {
				if answer, is, h := heard(t, x.x, to(x.x, want.Turn-1, l...)); !is || h != (api.Heard{}) || !frame.Same(answer, want) {
					t.Fatal(brief(answer), is, h)
				}
			})
		}
		if answer, is, h := heard(t, x.x, next(x.x, items(whole(), entry("new", 99, 0, "")))); !is || h != (api.Heard{Taken: 1}) || answer.Turn != want.Turn+2 {
			t.Error(brief(answer), is, h)
		}
	}
}

// P14.5: a frame without parts closes the talk, at any turn, the last one too; the last frame stays.
func TestClosingFrames(t *testing.T) {
	for turn := 0; turn < lastTurn; turn++ {
		for _, none := range [][]api.Part{nil, {}} {
			opener, peer := bothSides(t, config(2, 1), many(3))
			x := []side{opener, peer}[turn%2]
			upTo(t, x.x, turn)
			want := look(x.x)
			want.over, want.closed = true, true
			untouched(t, x.what, x.s, func() {
				if _, is, h := heard(t, x.x, next(x.x, none...)); is || h != (api.Heard{}) {
					t.Fatalf("turn %d: %v, %v", turn+1, is, h)
				}
			})
			isSeen(t, x.what, x.x, want)
		}
	}
}

// P14.5: parts of each kind, one and several, of which some are answered, and some not.
func TestHeardParts(t *testing.T) {
	held := under(oddKeys(), 10)
	same := plainOf(0, held)
	for _, c := range sampleConfigs() {
		for _, l := range [][]api.Part{
			{other(whole())},
			{same.print(whole())},
			{print(whole(), api.Tally{})},
			{same.print(rng("", "a")), other(rng("a", "b")), same.print(from("b"))},
			{items(whole())},
			{items(whole(), held...)},
			{items(whole(), under(oddKeys(), 20)...)},
			{items(whole(), under(oddKeys()[2:9], 0)...)},
			{items(rng("a", "b"), under([]string{"a", "ac"}, 30)...)},
			{reply(whole(), under(oddKeys()[:7], 20)...)},
			{reply(whole(), at("a"))},
			{other(rng("", "A")), items(rng("A", "aa"), entry("a", 99, 0, "x")), reply(rng("aa", "b"), entry("ab", 98, 7, "y")), same.print(rng("b", "c")), items(from("\xFF\xFF"))},
		} {
			for _, p := range pairs(t, c, held) {
				p.moved(t, 4)
				p.hear(t, next(p.x, l...))
			}
		}
	}
}

// P14.5: an answer without parts closes the talk; it is the last frame, and goes out.
func TestClosingAnswers(t *testing.T) {
	held := many(20)
	for _, l := range [][]api.Part{
		{print(whole(), plainTally(held))},
		{items(whole(), held...)},
		{reply(whole(), entry("new", 99, 0, "v"))},
		{reply(whole(), held...)},
		{items(rng("x", "y"), entry("x", 1, 0, ""))},
	} {
		opener, peer := bothSides(t, config(2, 1), held)
		for _, x := range []side{opener, peer} {
			turn := x.x.Last().Turn
			answer, is, _ := heard(t, x.x, next(x.x, l...))
			if !is || answer.Turn != turn+2 || len(answer.Parts) > 0 {
				t.Fatalf("%s: %s, %v", x.what, brief(answer), is)
			}
			isSeen(t, x.what, x.x, seen{name(3, 2, 7), x.x.Peer(), answer, true, true})
		}
	}
}

// P14.5: Heard counts what was taken and refused; what is taken stands in the store.
func TestHeardCounts(t *testing.T) {
	for room := range 6 {
		full := many(most - room)
		for _, p := range pairs(t, config(2, 1), full) {
			_, is, h, e := p.hear(t, next(p.x,
				reply(rng("a", "b"), at("a"), at("aa")),
				items(rng("k", "l"), entry(full[0].Key, greatest, 0, "newer"), entry(full[1].Key, 1, 0, "older")),
				reply(from("l"), at("l"), dead("m", 4, 3)),
			))
			taken := min(room, 4)
			if !is || h != (api.Heard{Taken: 1 + taken, Refused: 4 - taken}) || e != api.OK {
				t.Errorf("room for %d: %v, %v, %d", room, is, h, e)
			}
			if p.s.Len() != most-room+taken || p.s.Clock() != greatest {
				t.Errorf("room for %d: %d entries, clock %d", room, p.s.Len(), p.s.Clock())
			}
		}
	}
}

// P14.5: at the last turn there is no answer, whatever it were, but for a closing frame; what was taken stays.
func TestLastTurn(t *testing.T) {
	held := many(5)
	for _, l := range [][]api.Part{
		{other(whole())},
		{print(whole(), plainTally(held))},
		{items(whole(), entry("new", 99, 0, "v"))},
		{reply(whole(), entry("new", 99, 0, "v"))},
		{reply(rng("a", "b"), at("a")), other(from("b"))},
	} {
		p := pairs(t, config(2, 1), held)[0].moved(t, lastTurn-1)
		want := look(p.x)
		want.over = true
		f := next(p.x, l...)
		if answer, is, _, e := p.hear(t, f); is || e != api.OK {
			t.Fatal(brief(answer), is, e)
		}
		isSeen(t, "the last turn", p.x, want)
		hearRefuses(t, "the last turn once more", p.x, p.s, f, api.ErrStale)
		hearRefuses(t, "the last turn, closing", p.x, p.s, next(p.x), api.ErrStale)
	}
}

// P14.5: the turn ahead of the last one is answered; the peer's talk then awaits a frame that cannot come.
func TestTurnAheadOfTheLast(t *testing.T) {
	for _, l := range [][]api.Part{{other(whole())}, {items(whole())}} {
		p := pairs(t, config(2, 1), many(5))[1].moved(t, lastTurn-2)
		answer, is, _, e := p.hear(t, next(p.x, l...))
		if !is || e != api.OK || answer.Turn != lastTurn || p.x.Over() {
			t.Fatal(brief(answer), is, e)
		}
		hearRefuses(t, "behind the last turn", p.x, p.s, next(p.x, l...), api.ErrTurn)
		hearRefuses(t, "behind the last turn, closing", p.x, p.s, next(p.x), api.ErrTurn)
		quiet(t, "again", p.x, p.s, func() {
			if again, is, h := heard(t, p.x, to(p.x, lastTurn-1, l...)); !is || h != (api.Heard{}) || !frame.Same(again, answer) {
				t.Fatal(brief(again), is, h)
			}
		})
	}
	p := pairs(t, config(2, 1), many(5))[1].moved(t, lastTurn-2)
	answer, is, _, _ := p.hear(t, next(p.x, reply(whole(), at("new"))))
	if !is || answer.Turn != lastTurn || !p.x.Closed() {
		t.Error(brief(answer), is)
	}
}

// lines are n ranges that touch, each with as many of the numbered keys; the last one is Open.
func lines(n, each int) []api.Range {
	keys := numbered(0, n*each)
	var l []api.Range
	for i := range n - 1 {
		l = append(l, rng(keys[i*each], keys[(i+1)*each]))
	}
	return append(l, from(keys[(n-1)*each]))
}

// P14.5: as many parts as a frame has, of each kind.
func TestMostParts(t *testing.T) {
	var prints, asking, mixed []api.Part
	for i, r := range lines(mostParts, 1) {
		prints = append(prints, other(r))
		asking = append(asking, items(r))
		switch {
		case i%3 == 0:
			mixed = append(mixed, reply(r, entry(r.Lo, 200, 1, "x")))
		case i%3 == 1:
			mixed = append(mixed, items(r))
		default:
			mixed = append(mixed, print(r, api.Tally{}))
		}
	}
	for _, held := range [][]api.Entry{nil, many(1), many(most), under(numbered(500, most), 0)} {
		for _, c := range []api.Config{config(2, 1), config(16, 32)} {
			for i := range 2 {
				p := pairs(t, c, held)[i]
				if f, is, _, _ := p.hear(t, next(p.x, prints...)); !is || len(f.Parts) != mostParts {
					t.Fatalf("%d entries: %d Prints: %s, %v", len(held), mostParts, brief(f), is)
				}
				p = pairs(t, c, held)[i]
				if f, is, _, _ := p.hear(t, next(p.x, asking...)); !is || len(f.Parts) != len(held) {
					t.Fatalf("%d entries: %d Items: %s, %v", len(held), mostParts, brief(f), is)
				}
				p = pairs(t, c, held)[i]
				p.hear(t, next(p.x, mixed...))
			}
		}
	}
}

// splitting is a Print of 16 entries, and behind it Prints of ranges that have none, n parts in all: at a side that holds many(16) each of these others is answered by one part.
func splitting(n int) []api.Part {
	l := parts(other(rng("", "l")))
	for _, r := range lines(n, 1)[:n-1] {
		l = append(l, other(rng("l"+r.Lo, "l"+r.Hi)))
	}
	return l
}

// P14.5: an answer of MaxParts parts goes out; of one more there is none, and the talk is over, not closed.
func TestMoreThanMostParts(t *testing.T) {
	for _, x := range []struct{ parts, branch, answer int }{
		{mostParts - 2, 2, mostParts - 1},
		{mostParts - 1, 2, mostParts},
		{mostParts, 2, mostParts + 1},
		{mostParts - 15, 16, mostParts},
		{mostParts - 14, 16, mostParts + 1},
		{mostParts, 16, mostParts + 15},
	} {
		for _, p := range pairs(t, config(x.branch, 1), many(16)) {
			want := look(p.x)
			answer, is, h, e := p.hear(t, next(p.x, splitting(x.parts)...))
			if e != api.OK || h != (api.Heard{}) || is != (x.answer <= mostParts) {
				t.Fatalf("%+v: %s, %v, %v, %d", x, brief(answer), is, h, e)
			}
			if is {
				if len(answer.Parts) != x.answer || p.x.Over() {
					t.Fatalf("%+v: %s", x, brief(answer))
				}
				continue
			}
			want.over = true
			isSeen(t, "too many parts", p.x, want)
			hearRefuses(t, "once more", p.x, p.s, next(p.x, splitting(x.parts)...), api.ErrStale)
		}
	}
}

// P14.5: entries that come in a frame whose answer is too great are taken, and refused, all the same.
func TestTakenWithoutAnAnswer(t *testing.T) {
	held := many(most - 1)
	var l []api.Part
	l = append(l, reply(rng("", "k"), entry("a", 99, 0, "v"), entry("b", 98, 0, "v")))
	for _, r := range lines(mostParts, 2)[:mostParts-1] {
		l = append(l, other(r))
	}
	for _, p := range pairs(t, config(2, 1), held) {
		_, is, h, e := p.hear(t, next(p.x, l...))
		if is || h != (api.Heard{Taken: 1, Refused: 1}) || e != api.OK || !p.x.Over() || p.x.Closed() {
			t.Fatal(is, h, e, told(look(p.x)))
		}
		if x, is, _ := p.s.Get("a"); !is || x.Version.Counter != 99 || p.s.Clock() != max(99, clockOf(held)) {
			t.Error(quoted(x), is, p.s.Clock())
		}
	}
}

// P14.5: what is done to the store elsewhere counts from then on, and what the talk takes stands in it.
func TestStoreIsShared(t *testing.T) {
	for _, c := range sampleConfigs() {
		for i := range 2 {
			p := pairs(t, c, many(10))[i]
			writes := []func(s *store.Store, m *plain){
				func(s *store.Store, m *plain) {
					v, _ := s.Put("a", "written")
					m.take(api.Entry{Key: "a", Version: v, Value: "written"})
				},
				func(s *store.Store, m *plain) {
					v, _ := s.Delete(numbered(3, 1)[0])
					m.take(api.Entry{Key: numbered(3, 1)[0], Version: v, Dead: true})
				},
				func(s *store.Store, m *plain) {
					s.Take(entry("z", 500, 6, "taken"))
					m.take(entry("z", 500, 6, "taken"))
				},
			}
			for _, write := range writes {
				was := look(p.x)
				write(p.s, p.also.m)
				isSeen(t, "written", p.x, was)
				p.hear(t, next(p.x, print(whole(), plainTally(many(10)))))
				p.hear(t, next(p.x, items(rng("b", "x"), entry("k", p.s.Clock()+1, 2, "heard"))))
				if x, is, _ := p.s.Get("k"); !is || x.Version != (api.Version{Counter: p.s.Clock(), Node: 2}) {
					t.Fatal(quoted(x), is)
				}
			}
		}
	}
}

// P14.5: a Print that agrees with what is written meanwhile closes, though it did not when the talk began.
func TestWrittenMeanwhile(t *testing.T) {
	opener, peer := bothSides(t, config(2, 1), many(3))
	for _, x := range []side{opener, peer} {
		x.s.Put("a", "")
		all, _ := x.s.Fold(whole())
		if answer, is, _ := heard(t, x.x, next(x.x, print(whole(), all))); !is || len(answer.Parts) > 0 || !x.x.Closed() {
			t.Error(x.what, brief(answer), is)
		}
	}
}

// P14.6: what a talk tells of itself, asked as often as one likes.
func TestTold(t *testing.T) {
	for turn := 0; turn < lastTurn; turn++ {
		opener, peer := bothSides(t, config(2, 1), many(3))
		x := []side{opener, peer}[turn%2]
		upTo(t, x.x, turn)
		for range 3 {
			last := x.x.Last()
			if last.Turn != turn || last.Session != name(3, 2, 7) || x.x.Session() != name(3, 2, 7) || x.x.Over() || x.x.Closed() {
				t.Fatal(told(look(x.x)))
			}
			if x.x.Peer() != last.To || last.From != x.s.Node() || x.x.Peer() != []int{5, 3}[turn%2] {
				t.Fatal(told(look(x.x)))
			}
		}
	}
	for _, x := range ends(t) {
		if x.x.Session() != name(3, 2, 7) || x.x.Peer() != 8-x.s.Node() {
			t.Errorf("%s: %s", x.what, told(look(x.x)))
		}
	}
}
