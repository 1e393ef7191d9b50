package session_test

import (
	"slices"
	"testing"

	"tideline/api"
	"tideline/session"
	"tideline/store"
)

// filled is a desk with 16 sessions, of which those at these places are closed; begun by node 5, but for each third one, which was opened here.
func filled(t *testing.T, s *store.Store, closed ...int) (*session.Desk, []api.Talk) {
	t.Helper()
	d := desk(t, s, plainConfig())
	for i := range mostTalks {
		is := slices.Contains(closed, i)
		switch {
		case i%3 == 2:
			f := opened(t, d, 6)
			if is {
				heard(t, d, back(f))
			}
		case is:
			answered(t, d, agreeing(t, name(5, 1, i+1), s))
		default:
			answered(t, d, first(name(5, 1, i+1), 3, other(whole())))
		}
	}
	l := d.Talks()
	for i, x := range l {
		if x.Over != slices.Contains(closed, i) {
			t.Fatal(i, x)
		}
	}
	if len(l) != mostTalks {
		t.Fatal(l)
	}
	return d, l
}

// closedPlaces are which of 16 sessions are closed: the first one, a later one, the last one, several, all.
func closedPlaces() [][]int {
	return [][]int{
		{0}, {1}, {2}, {7}, {14}, {15}, {0, 1}, {0, 15}, {1, 2, 3}, {5, 4, 11}, {14, 15}, {2, 8},
		{0, 1, 2, 3, 4, 5, 6, 7, 8, 9, 10, 11, 12, 13, 14, 15},
	}
}

// P16.2, P16.3, P16.5: room is made by forgetting the first one that is closed, and no other one; the new one stands behind all others.
func TestFirstClosedIsForgotten(t *testing.T) {
	for _, closed := range closedPlaces() {
		for _, open := range []bool{true, false} {
			s := holding(t, 3, many(9))
			d, told := filled(t, s, closed...)
			gone := slices.Min(closed)
			want := append(slices.Delete(slices.Clone(told), gone, gone+1), api.Talk{Session: name(3, 1, 6), Peer: 4})
			if open {
				opened(t, d, 4)
			} else {
				answered(t, d, first(name(4, 1, 1), 3, other(whole())))
				want[15] = api.Talk{Session: name(4, 1, 1), Peer: 4, Turn: 1}
			}
			isTold(t, "room was made", d, 0, want...)
			// Its frames are refused from now on, and its opener's that are not newer.
			n := told[gone].Session
			if n.Opener == 5 {
				hearRefuses(t, "forgotten", d, s, agreeing(t, n, s), api.ErrStale)
				hearRefuses(t, "forgotten", d, s, api.Frame{From: 5, To: 3, Session: n, Turn: 2}, api.ErrStale)
			} else {
				hearRefuses(t, "forgotten", d, s, api.Frame{From: 6, To: 3, Session: n, Turn: 1}, api.ErrStale)
			}
		}
	}
}

// P16.2, P16.3: one is forgotten for each that comes, in their order, until none is closed; then there is no room.
func TestForgottenOneByOne(t *testing.T) {
	for _, closed := range closedPlaces() {
		s := holding(t, 3, many(9))
		d, told := filled(t, s, closed...)
		for i := range closed {
			if i%2 == 0 {
				opened(t, d, 4)
			} else {
				answered(t, d, first(name(4, 1, i+1), 3, other(whole())))
			}
			gone := slices.Index(told, firstOver(told))
			told = slices.Delete(slices.Clone(told), gone, gone+1)
			now := d.Talks()
			if len(now) != mostTalks || !slices.Equal(now[:15], told) {
				t.Fatalf("%d: %v, want %v", i, now, told)
			}
			told = now
		}
		openRefuses(t, "no room", d, s, 4, api.ErrBusy)
		hearRefuses(t, "no room", d, s, first(name(4, 2, 1), 3, other(whole())), api.ErrBusy)
	}
}

func firstOver(l []api.Talk) api.Talk {
	for _, x := range l {
		if x.Over {
			return x
		}
	}
	return api.Talk{}
}

// P16.3: ErrBusy of a frame that would begin a session, where none of 16 is closed; those of sessions that the desk has are heard as ever; behind the frame that closes one there is room.
func TestHearRefusesMore(t *testing.T) {
	s := holding(t, 3, many(9))
	d, told := filled(t, s)
	for range 2 {
		hearRefuses(t, "no room", d, s, first(name(4, 1, 1), 3, other(whole())), api.ErrBusy)
		hearRefuses(t, "no room", d, s, agreeing(t, name(4, 1, 1), s), api.ErrBusy)
		hearRefuses(t, "no room", d, s, first(name(5, 9, 9), 3, other(whole())), api.ErrBusy)
		// What is stale is so ahead of that.
		hearRefuses(t, "no room, and a later turn", d, s, api.Frame{From: 4, To: 3, Session: name(4, 1, 1), Turn: 2}, api.ErrStale)
		hearRefuses(t, "no room, and another node", d, s, first(name(4, 1, 1), 2, other(whole())), api.ErrStale)
		hearRefuses(t, "no room, and no frame", d, s, first(name(4, 1, 1), 3, items(whole())), api.ErrPart)
	}
	for _, x := range told {
		if x.Session.Opener == 5 {
			answered(t, d, first(x.Session, 3, other(whole())))
		}
	}
	isTold(t, "come again", d, 0, told...)
	answered(t, d, api.Frame{From: 5, To: 3, Session: told[3].Session, Turn: 2, Parts: parts(agreed(t, s))})
	answered(t, d, first(name(4, 1, 1), 3, other(whole())))
	want := append(slices.Delete(slices.Clone(told), 3, 4), api.Talk{Session: name(4, 1, 1), Peer: 4, Turn: 1})
	isTold(t, "room was made", d, 0, want...)
	hearRefuses(t, "no room", d, s, first(name(4, 1, 2), 3, other(whole())), api.ErrBusy)
}

// P16.3: stale names go ahead of ErrBusy.
func TestStaleAheadOfBusy(t *testing.T) {
	s := holding(t, 3, many(9))
	d := desk(t, s, plainConfig())
	answered(t, d, first(name(4, 2, 5), 3, other(whole())))
	heard(t, d, api.Frame{From: 4, To: 3, Session: name(4, 2, 5), Turn: 2, Parts: tooMuch()})
	for i := range mostTalks {
		answered(t, d, first(name(5, 1, i+1), 3, other(whole())))
	}
	not, newer := around(name(4, 2, 5))
	for _, n := range not {
		hearRefuses(t, "not newer, and no room", d, s, first(n, 3, other(whole())), api.ErrStale)
	}
	for _, n := range newer {
		hearRefuses(t, "no room", d, s, first(n, 3, other(whole())), api.ErrBusy)
	}
}

// P16.3: which names are refused is asked ahead of making room: a session may be begun for which a newer one of its opener is forgotten.
func TestNewerIsForgotten(t *testing.T) {
	s := holding(t, 3, many(9))
	d := desk(t, s, plainConfig())
	answered(t, d, agreeing(t, name(5, 1, 100), s))
	for i := range mostTalks - 1 {
		answered(t, d, first(name(6, 1, i+1), 3, other(whole())))
	}
	answered(t, d, first(name(5, 1, 50), 3, other(whole())))
	if l := d.Talks(); len(l) != mostTalks || l[15].Session != name(5, 1, 50) {
		t.Fatal(l)
	}
	// It is had, and its frames are heard; what comes behind it is held against the forgotten one.
	answered(t, d, first(name(5, 1, 50), 3, other(whole())))
	answered(t, d, api.Frame{From: 5, To: 3, Session: name(5, 1, 50), Turn: 2, Parts: parts(agreed(t, s))})
	for _, number := range []int{1, 49, 51, 99, 100} {
		hearRefuses(t, "not newer", d, s, first(name(5, 1, number), 3, other(whole())), api.ErrStale)
	}
	answered(t, d, first(name(5, 1, 101), 3, other(whole())))
	hearRefuses(t, "forgotten", d, s, first(name(5, 1, 50), 3, other(whole())), api.ErrStale)
}

// P16.2, P16.3: where there are fewer than 16, nothing is forgotten, however many are closed.
func TestNothingIsForgottenEarly(t *testing.T) {
	s := holding(t, 3, many(9))
	d := desk(t, s, plainConfig())
	var told []api.Talk
	for i := range mostTalks {
		answered(t, d, agreeing(t, name(5, 1, i+1), s))
		told = append(told, api.Talk{Session: name(5, 1, i+1), Peer: 5, Turn: 1, Over: true})
		isTold(t, "closed", d, 0, told...)
	}
	for i := range 40 {
		opened(t, d, 5)
		if told = d.Talks(); told[15].Session != name(3, 1, i+1) {
			t.Fatal(told)
		}
		heard(t, d, api.Frame{From: 5, To: 3, Session: name(3, 1, i+1), Turn: 1})
	}
	for i, x := range d.Talks() {
		if x != (api.Talk{Session: name(3, 1, 25+i), Peer: 5, Over: true}) {
			t.Error(i, x)
		}
	}
}

// P16.5: sessions stand in the order in which the desk came to have them, also where one was given up from their midst, at the beginning, or at the end, and each is still found by its name.
func TestOrderBehindOneThatIsGone(t *testing.T) {
	for gone := range mostTalks {
		s := holding(t, 3, many(9))
		d, told := filled(t, s)
		n := told[gone].Session
		f := api.Frame{From: told[gone].Peer, To: 3, Session: n, Turn: told[gone].Turn + 1, Parts: tooMuch()}
		if _, is, _ := heard(t, d, f); is {
			t.Fatal("answered")
		}
		told = slices.Delete(told, gone, gone+1)
		isTold(t, "given up", d, 0, told...)
		for i, x := range told {
			f := api.Frame{From: x.Peer, To: 3, Session: x.Session, Turn: x.Turn + 1, Parts: parts(other(whole()))}
			if answer := answered(t, d, f); answer.Session != x.Session || answer.To != x.Peer || answer.Turn != x.Turn+2 {
				t.Fatalf("%v: %s", x, brief(answer))
			}
			told[i].Turn += 2
			isTold(t, "heard", d, 0, told...)
		}
	}
}

// P16.5: what Talks tells of each: its name, its peer, the turn of its last frame, its Tries, whether it is over.
func TestTalks(t *testing.T) {
	s := holding(t, 3, many(9))
	d := desk(t, s, config(2, 1, 2, 9))
	isTold(t, "none", d, 0)
	own := opened(t, d, 0)
	isTold(t, "one", d, 0, api.Talk{Session: name(3, 1, 1), Peer: 0})
	theirs := answered(t, d, first(name(7, mostLives, mostLives), 3, other(whole())))
	d.Tick()
	d.Tick()
	own = upTo(t, d, own, 8)
	d.Tick()
	d.Tick()
	answered(t, d, agreeing(t, name(1, 2, 3), s))
	last := upTo(t, d, answered(t, d, first(name(1, 2, 4), 3, other(whole()))), lastTurn)
	if theirs.Turn != 1 || own.Turn != 8 || last.Turn != lastTurn {
		t.Fatal(brief(theirs), brief(own), brief(last))
	}
	isTold(t, "four", d, 4,
		api.Talk{Session: name(3, 1, 1), Peer: 0, Turn: 8, Tries: 1},
		api.Talk{Session: name(7, mostLives, mostLives), Peer: 7, Turn: 1, Tries: 2},
		api.Talk{Session: name(1, 2, 3), Peer: 1, Turn: 1, Over: true},
		api.Talk{Session: name(1, 2, 4), Peer: 1, Turn: lastTurn},
	)
}
