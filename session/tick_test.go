package session_test

import (
	"math/rand/v2"
	"slices"
	"testing"

	"tideline/api"
	"tideline/frame"
)

// P16.4: now is one more each time, also where there is no session, or none that is due.
func TestTicksAreCounted(t *testing.T) {
	s := holding(t, 3, many(9))
	d := desk(t, s, config(2, 1, 100, 0))
	isTold(t, "new", d, 0)
	untouched(t, "ticks", s, func() { ticks(t, d, 500) })
	isTold(t, "500 ticks", d, 500)
	answered(t, d, agreeing(t, name(5, 1, 1), s))
	ticks(t, d, 500)
	opened(t, d, 5)
	ticks(t, d, 99)
	if d.Now() != 1099 || len(d.Talks()) != 2 {
		t.Error(d.Now(), d.Talks())
	}
}

// P16.4: a frame that nobody answers goes out again each Wait ticks, Tries times, and Wait ticks behind that the session is given up; at no other tick anything happens.
func TestSentAgainAndGivenUp(t *testing.T) {
	for _, wait := range []int{1, 2, 3, 7, 99, 100} {
		for _, tries := range []int{0, 1, 2, 3, 19, 20} {
			for _, x := range bothWays(t, config(2, 1, wait, tries), many(9)) {
				for i := range tries {
					isTold(t, x.what, x.d, wait*i, x.told(i))
					untouched(t, x.what, x.s, func() {
						ticks(t, x.d, wait-1)
						tickTells(t, x.d, frames(x.f))
					})
					isTold(t, x.what, x.d, wait*(i+1), x.told(i+1))
				}
				ticks(t, x.d, wait-1)
				isTold(t, x.what, x.d, wait*(tries+1)-1, x.told(tries))
				tickTells(t, x.d, nil, x.f.Session)
				isTold(t, x.what, x.d, wait*(tries+1))
				ticks(t, x.d, 3*wait)
			}
		}
	}
}

// P16.4: what goes out again is the last frame as it was, of whatever turn, also where the store was written to since.
func TestSentAgainAsItWas(t *testing.T) {
	for _, x := range bothWays(t, config(3, 2, 2, 20), many(20)) {
		for range 8 {
			for range 3 {
				x.s.Put("a", "later")
				x.s.Delete(numbered(3, 1)[0])
				ticks(t, x.d, 1)
				tickTells(t, x.d, frames(x.f))
			}
			x.f = answered(t, x.d, back(x.f, other(whole())))
		}
	}
}

// namesOfAllSorts are names that differ in each of their three fields, no two of which come to the same order by two of them; those of node 3 are of life 6.
func namesOfAllSorts() []api.Name {
	return []api.Name{
		name(0, 1, 3), name(0, 2, 1), name(0, 2, 2), name(1, 1, 1), name(1, 1, mostLives), name(1, 3, 1),
		name(3, 6, 1), name(3, 6, 2), name(3, 6, 3), name(4, 1, 2), name(7, 1, 1), name(7, mostLives, 1), name(7, mostLives, 2),
	}
}

// beginAll has the pair have sessions of these names, in that order, but for those of its own node, which it opens as they come.
func beginAll(t *testing.T, p pair, names []api.Name) {
	t.Helper()
	for _, n := range names {
		if n.Opener == p.s.Node() {
			p.open(t, 5)
		} else if _, is, _, e := p.hear(t, first(n, p.s.Node(), other(whole()))); !is || e != api.OK {
			t.Fatal(n, is, e)
		}
	}
}

// P16.4: several that are due at one tick go out by rising names, and are given up by rising names, in whatever order the desk came to have them, which Talks tells.
func TestByRisingNames(t *testing.T) {
	rnd := rand.New(rand.NewPCG(16, 4))
	names := namesOfAllSorts()
	for range 60 {
		mixed := slices.Clone(names)
		rnd.Shuffle(len(mixed), func(i, j int) { mixed[i], mixed[j] = mixed[j], mixed[i] })
		p := newPair(t, 3, many(9), config(2, 1, 3, 2), 6)
		beginAll(t, p, mixed)
		for i := range 3 {
			p.wait(t, 2)
			l, lost := p.tick(t)
			told := lost
			if i < 2 {
				told = nil
				for _, f := range l {
					told = append(told, f.Session)
				}
			}
			if !slices.Equal(told, names) {
				t.Fatalf("tick %d: %v", p.d.Now(), told)
			}
		}
	}
}

// P16.4: at one tick some go out again and others are given up, each in their order; others stay as they are.
func TestBothAtOneTick(t *testing.T) {
	s := holding(t, 3, many(9))
	d := desk(t, s, config(2, 1, 2, 1))
	begin := func(n api.Name) api.Frame { return answered(t, d, first(n, 3, other(whole()))) }
	seven, four := begin(name(7, 1, 1)), begin(name(4, 1, 1))
	closed := answered(t, d, agreeing(t, name(0, 1, 1), s))
	ticks(t, d, 1)
	odd := begin(name(2, 1, 1))
	tickTells(t, d, frames(four, seven))
	six, five := begin(name(6, 1, 1)), begin(name(5, 1, 1))
	own := opened(t, d, 6)
	tickTells(t, d, frames(odd))
	tickTells(t, d, frames(own, five, six), name(4, 1, 1), name(7, 1, 1))
	isTold(t, "tick 4", d, 4,
		api.Talk{Session: closed.Session, Peer: 0, Turn: 1, Over: true},
		api.Talk{Session: odd.Session, Peer: 2, Turn: 1, Tries: 1},
		api.Talk{Session: six.Session, Peer: 6, Turn: 1, Tries: 1},
		api.Talk{Session: five.Session, Peer: 5, Turn: 1, Tries: 1},
		api.Talk{Session: own.Session, Peer: 6, Tries: 1},
	)
	tickTells(t, d, nil, name(2, 1, 1))
	tickTells(t, d, nil, name(3, 1, 1), name(5, 1, 1), name(6, 1, 1))
	isTold(t, "tick 6", d, 6, api.Talk{Session: closed.Session, Peer: 0, Turn: 1, Over: true})
	ticks(t, d, 20)
}

// P16.4: of 16 sessions, all due at once, all go out, and all are given up.
func TestAllAtOnce(t *testing.T) {
	for _, tries := range []int{0, 1, 20} {
		p := newPair(t, 3, many(9), config(2, 1, 1, tries), 6)
		beginAll(t, p, append(namesOfAllSorts(), name(6, 1, 1), name(6, 1, 2), name(2, 1, 1)))
		for range tries {
			if l, lost := p.tick(t); len(l) != mostTalks || len(lost) != 0 {
				t.Fatal(briefly(l), lost)
			}
		}
		if l, lost := p.tick(t); len(l) != 0 || len(lost) != mostTalks {
			t.Fatal(briefly(l), lost)
		}
		isTold(t, "all", p.d, tries+1)
	}
}

// P16.4: at the end of the clock nothing happens any more: now stays, and nothing is sent again, nor given up; frames are heard, and sessions opened, as ever.
func TestEndOfTheClock(t *testing.T) {
	for _, c := range []api.Config{config(2, 1, 1, 0), config(2, 1, 1, 5), config(2, 1, 3, 1), config(2, 1, 100, 20)} {
		for ahead := range 8 {
			p := newPair(t, 3, many(9), c, 1)
			p.skip(lastTick - ahead)
			f, _ := p.open(t, 5)
			p.hear(t, first(name(6, 1, 1), 3, other(whole())))
			p.hear(t, agreeing(t, name(7, 1, 1), p.s))
			p.wait(t, ahead)
			if p.d.Now() != lastTick {
				t.Fatal(p.d.Now())
			}
			for range 3 {
				was := p.d.Talks()
				if l, lost := p.tick(t); len(l) > 0 || len(lost) > 0 {
					t.Fatal(briefly(l), lost)
				}
				isTold(t, "at the end", p.d, lastTick, was...)
				if x := slices.IndexFunc(was, func(x api.Talk) bool { return x.Session == f.Session }); x >= 0 {
					f, _, _, _ = p.hear(t, back(f, other(whole())))
				}
				p.open(t, 4)
				p.hear(t, first(name(6, 2, len(was)), 3, other(whole())))
			}
		}
	}
}

// P16.4: a frame that was due ahead of the end, and was answered, is not sent then: what follows it is due behind the end, which does not come.
func TestPutOffBehindTheEnd(t *testing.T) {
	for _, x := range bothWaysNearTheEnd(t, 10, config(2, 1, 8, 3)) {
		ticks(t, x.d, 5)
		x.f = answered(t, x.d, back(x.f, other(whole())))
		ticks(t, x.d, 5)
		isTold(t, x.what, x.d, lastTick, x.told(0))
		ticks(t, x.d, 50)
		isTold(t, x.what, x.d, lastTick, x.told(0))
		if answer := answered(t, x.d, back(x.f, agreed(t, x.s))); !frame.Closing(answer) {
			t.Error(brief(answer))
		}
	}
	// At the last tick of all frames are still sent again, and sessions given up; what is sent then is due no more.
	for _, x := range bothWaysNearTheEnd(t, 8, config(2, 1, 8, 3)) {
		ticks(t, x.d, 7)
		tickTells(t, x.d, frames(x.f))
		isTold(t, x.what, x.d, lastTick, x.told(1))
		ticks(t, x.d, 50)
		isTold(t, x.what, x.d, lastTick, x.told(1))
	}
	for _, x := range bothWaysNearTheEnd(t, 8, config(2, 1, 8, 0)) {
		ticks(t, x.d, 7)
		tickTells(t, x.d, nil, x.f.Session)
		isTold(t, x.what, x.d, lastTick)
	}
}

// bothWaysNearTheEnd is as bothWays, so many ticks ahead of the clock's end.
func bothWaysNearTheEnd(t *testing.T, ahead int, c api.Config) []begun {
	t.Helper()
	s, u := holding(t, 3, many(9)), holding(t, 3, many(9))
	d, e := desk(t, s, c), desk(t, u, c)
	d.Skip(lastTick - ahead)
	e.Skip(lastTick - ahead)
	return []begun{
		{"opened here", d, s, opened(t, d, 5)},
		{"begun here", e, u, answered(t, e, first(name(5, 1, 1), 3, other(whole())))},
	}
}
