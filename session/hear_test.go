package session_test

import (
	"testing"

	"tideline/api"
	"tideline/frame"
	"tideline/recon"
	"tideline/session"
	"tideline/store"
)

// begun is a desk of node 3 with one session, and the frame that it sent last: opened here, or begun here by node 5.
type begun struct {
	what string
	d    *session.Desk
	s    *store.Store
	f    api.Frame
}

func bothWays(t *testing.T, c api.Config, l []api.Entry) []begun {
	t.Helper()
	s, u := holding(t, 3, l), holding(t, 3, l)
	d, e := desk(t, s, c), desk(t, u, c)
	return []begun{
		{"opened here", d, s, opened(t, d, 5)},
		{"begun here", e, u, answered(t, e, first(name(5, 1, 1), 3, other(whole())))},
	}
}

// told is what the desk tells of the session while it is not over.
func (x begun) told(tries int) api.Talk {
	return api.Talk{Session: x.f.Session, Peer: 5, Turn: x.f.Turn, Tries: tries}
}

// P16.3: a frame of turn 0 of a session that the desk does not have begins it: the answer is Join's, of all maps, Configs and openers.
func TestBegins(t *testing.T) {
	for _, held := range sampleMaps() {
		for _, c := range sampleConfigs() {
			for _, n := range []api.Name{name(0, 1, 1), name(7, mostLives, mostLives), name(5, 1, mostLives), name(2, mostLives, 1)} {
				s := holding(t, 3, held)
				d := desk(t, s, c)
				f := first(n, 3, other(whole()))
				_, want, _, _ := recon.Join(holding(t, 3, held), c, f)
				if answer, is, h := heard(t, d, f); !frame.Same(answer, want) || !is || h != (api.Heard{}) {
					t.Fatalf("%s, %v, %v, want %s", brief(answer), is, h, brief(want))
				}
				isTold(t, "begun", d, 0, api.Talk{Session: n, Peer: n.Opener, Turn: 1})
				isAs(t, "begun", s, 3, clockOf(held), held)
			}
		}
	}
}

// P16.3: one that is answered by the closing frame is over at once, is had all the same, and is never due.
func TestBeginsClosed(t *testing.T) {
	for _, held := range sampleMaps() {
		s := holding(t, 3, held)
		d := desk(t, s, config(2, 1, 1, 1))
		f := agreeing(t, name(5, 1, 1), s)
		closing := answered(t, d, f)
		if !frame.Closing(closing) || closing.Turn != 1 {
			t.Fatal(brief(closing))
		}
		told := api.Talk{Session: name(5, 1, 1), Peer: 5, Turn: 1, Over: true}
		isTold(t, "closed", d, 0, told)
		ticks(t, d, 10)
		isTold(t, "closed", d, 10, told)
		if again := answered(t, d, f); !frame.Same(again, closing) {
			t.Fatal(brief(again))
		}
	}
}

// P16.3: what was begun is due at now plus Wait, whenever it was begun.
func TestBegunIsDue(t *testing.T) {
	for _, wait := range []int{1, 2, 3, 99, 100} {
		for _, now := range []int{0, 1, 2, 150} {
			d := desk(t, holding(t, 3, many(3)), config(2, 1, wait, 1))
			ticks(t, d, now)
			f := answered(t, d, first(name(5, 1, 1), 3, other(whole())))
			ticks(t, d, wait-1)
			tickTells(t, d, frames(f))
			isTold(t, "sent again", d, now+wait, api.Talk{Session: f.Session, Peer: 5, Turn: 1, Tries: 1})
		}
	}
}

// P16.3: the awaited frame is answered as the talk answers it; the new frame is due at now plus Wait, and the old one no more.
func TestAwaited(t *testing.T) {
	for _, wait := range []int{2, 3, 10, 100} {
		for later := range min(wait, 5) {
			for _, x := range bothWays(t, config(2, 1, wait, 2), many(9)) {
				ticks(t, x.d, later)
				was := x.f
				x.f = answered(t, x.d, back(x.f, other(whole())))
				if x.f.Turn != was.Turn+2 || len(x.f.Parts) != 2 {
					t.Fatal(x.what, brief(x.f))
				}
				isTold(t, x.what, x.d, later, x.told(0))
				ticks(t, x.d, wait-1)
				tickTells(t, x.d, frames(x.f))
				isTold(t, x.what, x.d, later+wait, x.told(1))
			}
		}
	}
}

// P16.3: the awaited frame sets the Tries to 0, also where they have come to their end: the new frame has as many as the first one.
func TestAwaitedBehindTries(t *testing.T) {
	for tries := range 4 {
		for sent := range tries + 1 {
			for _, x := range bothWays(t, config(2, 1, 2, tries), many(9)) {
				for i := range sent {
					ticks(t, x.d, 1)
					tickTells(t, x.d, frames(x.f))
					isTold(t, x.what, x.d, 2*(i+1), x.told(i+1))
				}
				ticks(t, x.d, 1)
				x.f = answered(t, x.d, back(x.f, other(whole())))
				isTold(t, x.what, x.d, 2*sent+1, x.told(0))
				for range tries {
					ticks(t, x.d, 1)
					tickTells(t, x.d, frames(x.f))
				}
				ticks(t, x.d, 1)
				tickTells(t, x.d, nil, x.f.Session)
				isTold(t, x.what, x.d, 2*sent+1+2*(tries+1))
			}
		}
	}
}

// P16.3: entries of the awaited frame are taken, and told; those that there is no room for are refused, and told.
func TestAwaitedTakes(t *testing.T) {
	for _, x := range bothWays(t, plainConfig(), many(most-1)) {
		f := back(x.f, items(rng("a", "b"), at("a"), at("aa"), at("ab")), other(from("c")))
		answer, is, h := heard(t, x.d, f)
		if !is || answer.Turn != x.f.Turn+2 || h != (api.Heard{Taken: 1, Refused: 2}) {
			t.Errorf("%s: %s, %v, %v", x.what, brief(answer), is, h)
		}
		isAs(t, x.what, x.s, 3, clockOf(many(most-1)), append(list(at("a")), many(most-1)...))
	}
}

// P16.3: whoever hears the closing frame has the session closed: it is had, is over with Tries 0, and is due no more.
func TestHearsTheClosingFrame(t *testing.T) {
	for _, sent := range []int{0, 1, 2} {
		for _, x := range bothWays(t, config(2, 1, 2, 2), many(9)) {
			for range sent {
				ticks(t, x.d, 1)
				tickTells(t, x.d, frames(x.f))
			}
			ticks(t, x.d, 1)
			if _, is, h := heard(t, x.d, back(x.f)); is || h != (api.Heard{}) {
				t.Fatal(x.what, is, h)
			}
			told := x.told(0)
			told.Over = true
			isTold(t, x.what, x.d, 2*sent+1, told)
			ticks(t, x.d, 20)
			isTold(t, x.what, x.d, 2*sent+21, told)
		}
	}
}

// P16.3: so has whoever sends it, and sends it again where its frame comes again, and by no tick.
func TestSendsTheClosingFrame(t *testing.T) {
	for _, sent := range []int{0, 1, 2} {
		for _, x := range bothWays(t, config(2, 1, 2, 2), many(9)) {
			for range sent {
				ticks(t, x.d, 1)
				tickTells(t, x.d, frames(x.f))
			}
			ticks(t, x.d, 1)
			f := back(x.f, agreed(t, x.s))
			x.f = answered(t, x.d, f)
			if !frame.Closing(x.f) {
				t.Fatal(x.what, brief(x.f))
			}
			told := x.told(0)
			told.Over = true
			isTold(t, x.what, x.d, 2*sent+1, told)
			for range 5 {
				ticks(t, x.d, 3)
				if again := answered(t, x.d, f); !frame.Same(again, x.f) {
					t.Fatal(x.what, brief(again))
				}
			}
			isTold(t, x.what, x.d, 2*sent+16, told)
		}
	}
}

// P16.3: a session that is over and not closed is given up at once, by each of the two ways; what was taken stays, and is told; nothing of it is due, and its frames are refused.
func TestGivenUpByHearing(t *testing.T) {
	held := many(9)
	manyParts := func(x begun) api.Frame { return back(x.f, tooMuch()...) }
	noTurn := func(x begun) api.Frame {
		f := upTo(t, x.d, x.f, lastTurn-1)
		return back(f, other(rng("", "y")), reply(from("z"), at("z")))
	}
	// The last turn is the peer's: it is the opener who has none behind it.
	ends := [][]func(begun) api.Frame{{manyParts, noTurn}, {manyParts}}
	for _, sent := range []int{0, 1} {
		for i := range ends {
			for _, end := range ends[i] {
				x := bothWays(t, config(2, 1, 4, 2), held)[i]
				for range sent {
					ticks(t, x.d, 3)
					tickTells(t, x.d, frames(x.f))
				}
				f := end(x)
				if _, is, h := heard(t, x.d, f); is || h != (api.Heard{Taken: 1}) {
					t.Fatalf("%s: %v, %v", x.what, is, h)
				}
				isTold(t, x.what, x.d, 4*sent)
				isAs(t, x.what, x.s, 3, clockOf(held), append(many(9), at("z")))
				hearRefuses(t, x.what, x.d, x.s, f, api.ErrStale)
				hearRefuses(t, x.what, x.d, x.s, turned(f, f.Turn%2+2), api.ErrStale)
				if x.f.Session.Opener == 5 {
					hearRefuses(t, x.what, x.d, x.s, first(x.f.Session, 3, other(whole())), api.ErrStale)
				}
				ticks(t, x.d, 20)
				isTold(t, x.what, x.d, 4*sent+20)
			}
		}
	}
}

// P16.3: a frame that has come again is answered by the last one, and puts nothing off: it is due when it was, with as many Tries.
func TestComesAgain(t *testing.T) {
	for tries := range 3 {
		for _, x := range bothWays(t, config(2, 1, 3, tries), many(9)) {
			heardLast := first(name(5, 1, 1), 3, other(whole()))
			if x.what == "opened here" {
				heardLast = back(x.f, other(whole()))
				x.f = answered(t, x.d, heardLast)
			}
			again := func(sent int) {
				t.Helper()
				for _, f := range frames(heardLast, turned(heardLast, heardLast.Turn, other(whole()))) {
					now := x.d.Now()
					untouched(t, x.what, x.s, func() {
						if answer, is, h := heard(t, x.d, f); !is || h != (api.Heard{}) || !frame.Same(answer, x.f) {
							t.Fatalf("%s: %s, %v, %v", x.what, brief(answer), is, h)
						}
					})
					isTold(t, x.what, x.d, now, x.told(sent))
				}
			}
			for sent := range tries + 1 {
				again(sent)
				ticks(t, x.d, 1)
				again(sent)
				ticks(t, x.d, 1)
				again(sent)
				if sent < tries {
					tickTells(t, x.d, frames(x.f))
				} else {
					tickTells(t, x.d, nil, x.f.Session)
				}
			}
			hearRefuses(t, x.what, x.d, x.s, heardLast, api.ErrStale)
		}
	}
}

// P16.3: frames of a session that the desk has, which are neither awaited nor come again: ErrStale; nothing is put off.
func TestStaleFrames(t *testing.T) {
	for _, over := range []bool{false, true} {
		for _, x := range bothWays(t, config(2, 1, 3, 1), many(9)) {
			x.f = upTo(t, x.d, x.f, x.f.Turn+10)
			if over {
				x.f = answered(t, x.d, back(x.f, agreed(t, x.s)))
			}
			ticks(t, x.d, 2)
			count := 0
			for turn := (x.f.Turn + 1) % 2; turn <= lastTurn; turn += 2 {
				if turn == x.f.Turn-1 || turn == x.f.Turn+1 && !over {
					continue
				}
				l := parts(other(whole()))
				for range 2 {
					hearRefuses(t, x.what, x.d, x.s, turned(back(x.f), turn, l...), api.ErrStale)
					if l = nil; turn == 0 {
						l = parts(agreed(t, x.s))
					}
					count++
				}
			}
			if count < 50 {
				t.Error(count)
			}
			if over {
				ticks(t, x.d, 1)
			} else {
				tickTells(t, x.d, frames(x.f))
			}
		}
	}
}

// P16.3: frames of a session's name that come from another node than its peer are stale; so are those that go to another node.
func TestFramesOfOtherNodes(t *testing.T) {
	for _, x := range bothWays(t, plainConfig(), many(9)) {
		for node := range 8 {
			good := back(x.f, other(whole()))
			if f := good; node != 3 && node != 5 && f.Session.Opener == 3 {
				f.From = node
				hearRefuses(t, x.what+", from another node", x.d, x.s, f, api.ErrStale)
			}
			if f := good; node != 3 && node != 5 && f.Session.Opener == 5 {
				f.To = node
				hearRefuses(t, x.what+", to another node", x.d, x.s, f, api.ErrStale)
			}
			if f := first(name(5, 1, 2), node, other(whole())); node != 3 && node != 5 {
				hearRefuses(t, x.what+", a first frame to another node", x.d, x.s, f, api.ErrStale)
			}
			// What this node sent itself, and comes back.
			if node != 3 {
				hearRefuses(t, x.what+", its own", x.d, x.s, first(name(3, 1, 1), node, other(whole())), api.ErrStale)
				hearRefuses(t, x.what+", its own", x.d, x.s, first(name(3, 1, 2), node, other(whole())), api.ErrStale)
			}
		}
		hearRefuses(t, x.what+", its own", x.d, x.s, x.f, api.ErrStale)
	}
}

// P16.3: frames of later turns of sessions that the desk does not have begin nothing: never had, or had no more.
func TestLaterTurnsBeginNothing(t *testing.T) {
	for turn := 1; turn <= lastTurn; turn++ {
		s := holding(t, 3, many(9))
		d := desk(t, s, config(2, 1, 1, 0))
		n := name(5, 1, 1)
		if turn%2 == 1 {
			n = name(3, 1, 1)
		}
		for _, l := range [][]api.Part{{other(whole())}, {agreed(t, s)}, {items(whole(), at("new"))}, nil} {
			hearRefuses(t, "never had", d, s, api.Frame{From: 5, To: 3, Session: n, Turn: turn, Parts: l}, api.ErrStale)
		}
		opened(t, d, 5)
		answered(t, d, first(name(5, 1, 1), 3, other(whole())))
		tickTells(t, d, nil, name(3, 1, 1), name(5, 1, 1))
		for _, l := range [][]api.Part{{other(whole())}, {items(whole(), at("new"))}, nil} {
			hearRefuses(t, "had no more", d, s, api.Frame{From: 5, To: 3, Session: n, Turn: turn, Parts: l}, api.ErrStale)
		}
	}
}

// around are names of node 5, which are not newer than n, or newer, by Life and by Number.
func around(n api.Name) (not, newer []api.Name) {
	for _, life := range []int{1, n.Life - 1, n.Life, n.Life + 1, mostLives} {
		for _, number := range []int{1, n.Number - 1, n.Number, n.Number + 1, mostLives} {
			one := name(n.Opener, life, number)
			if frame.CheckName(one) != api.OK {
				continue
			}
			if life > n.Life || life == n.Life && number > n.Number {
				newer = append(newer, one)
			} else {
				not = append(not, one)
			}
		}
	}
	return not, newer
}

// P16.3: behind a session that the desk has no more its opener's names are refused, but for the newer ones: by Life first, then by Number.
func TestOlderNamesAreRefused(t *testing.T) {
	for _, gone := range []api.Name{name(5, 1, 1), name(5, 1, 2), name(5, 2, 1), name(5, 4, 7), name(5, mostLives, mostLives), name(5, 1, mostLives), name(5, mostLives, 1)} {
		not, newer := around(gone)
		for _, later := range append(newer, api.Name{}) {
			s := holding(t, 3, many(9))
			d := desk(t, s, config(2, 1, 1, 0))
			answered(t, d, first(gone, 3, other(whole())))
			tickTells(t, d, nil, gone)
			for _, n := range not {
				hearRefuses(t, "not newer", d, s, first(n, 3, other(whole())), api.ErrStale)
				hearRefuses(t, "not newer", d, s, agreeing(t, n, s), api.ErrStale)
			}
			if later != (api.Name{}) {
				answered(t, d, first(later, 3, other(whole())))
				isTold(t, "newer", d, 1, api.Talk{Session: later, Peer: 5, Turn: 1})
			}
		}
	}
}

// P16.3: the newest of those that the desk has no more counts, in whatever order they went.
func TestNewestGoneCounts(t *testing.T) {
	names := []api.Name{name(5, 2, 3), name(5, 2, 5), name(5, 3, 1), name(5, 1, 9), name(5, 2, 4)}
	for i := range names {
		s := holding(t, 3, many(9))
		d := desk(t, s, config(2, 1, 1, 0))
		// All are had at first: none is refused for the others' sake, while these are had.
		for j := range names {
			answered(t, d, first(names[(i+j)%5], 3, other(whole())))
		}
		// Each goes of its own, in that order.
		for j := range names {
			n := names[(i+j)%5]
			f := api.Frame{From: 5, To: 3, Session: n, Turn: 2, Parts: tooMuch()}
			if _, is, _ := heard(t, d, f); is || len(d.Talks()) != 4-j {
				t.Fatal(is, d.Talks())
			}
		}
		for _, n := range append(names, name(5, 2, 6), name(5, 2, mostLives), name(5, 1, mostLives)) {
			hearRefuses(t, "not newer", d, s, first(n, 3, other(whole())), api.ErrStale)
		}
		answered(t, d, first(name(5, 3, 2), 3, other(whole())))
	}
}

// P16.3: sessions that the desk still has refuse nothing of their opener's, nor those that other nodes opened, this one with them.
func TestWhatRefusesNothing(t *testing.T) {
	s := holding(t, 3, many(9))
	d := desk(t, s, config(2, 1, 1, 0))
	for range 9 {
		opened(t, d, 5)
	}
	for _, n := range []api.Name{name(4, 9, 9), name(6, 9, 9)} {
		answered(t, d, first(n, 3, other(whole())))
	}
	if _, lost := d.Tick(); len(lost) != 11 {
		t.Fatal(lost)
	}
	var told []api.Talk
	for _, n := range []api.Name{name(5, 9, 9), name(5, 9, 8), name(5, 8, 10), name(5, 1, 1), name(7, 1, 1), name(0, 1, 1)} {
		answered(t, d, first(n, 3, other(whole())))
		told = append(told, api.Talk{Session: n, Peer: n.Opener, Turn: 1})
		isTold(t, "begun", d, 1, told...)
	}
	for _, n := range []api.Name{name(4, 9, 9), name(6, 9, 9), name(4, 1, 1)} {
		hearRefuses(t, "not newer", d, s, first(n, 3, other(whole())), api.ErrStale)
	}
}
