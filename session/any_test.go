package session_test

import (
	"math/rand/v2"
	"testing"

	"tideline/api"
	"tideline/frame"
)

// someName is a name that is near those that the desk has, or had.
func someName(rnd *rand.Rand, p pair) api.Name {
	n := name(rnd.IntN(8), 1+rnd.IntN(3), 1+rnd.IntN(12))
	if l := p.also.talks; len(l) > 0 && rnd.IntN(3) == 0 {
		n = l[rnd.IntN(len(l))].x.Session()
	}
	if l := p.also.gone; len(l) > 0 && rnd.IntN(5) == 0 {
		n = l[rnd.IntN(len(l))]
	}
	switch rnd.IntN(6) {
	case 0:
		n.Number += rnd.IntN(3) - 1
	case 1:
		n.Life += rnd.IntN(3) - 1
	}
	return n
}

// someParts are parts that may be: few, of all kinds, or so many that there is no answer to them.
func someParts(t *testing.T, rnd *rand.Rand, p pair) []api.Part {
	t.Helper()
	key := numbered(rnd.IntN(40), 1)[0]
	switch rnd.IntN(9) {
	case 0:
		return nil
	case 1:
		return parts(agreed(t, p.s))
	case 2:
		return parts(items(from(key), entry(key, 1+rnd.IntN(90), rnd.IntN(8), "s")))
	case 3:
		return parts(reply(whole(), entry(key, 1+rnd.IntN(90), rnd.IntN(8), "s")))
	case 4:
		if rnd.IntN(4) == 0 {
			return tooMuch()
		}
	}
	return parts(other(whole()))
}

// someFrame is one of a session that the desk has, mostly such as it awaits, or one that would begin a session, or any other one.
func someFrame(t *testing.T, rnd *rand.Rand, p pair) api.Frame {
	t.Helper()
	l := p.also.talks
	if len(l) > 0 && rnd.IntN(2) == 0 {
		last := l[rnd.IntN(len(l))].x.Last()
		f := back(last, someParts(t, rnd, p)...)
		switch rnd.IntN(6) {
		case 0:
			f.Turn -= 2
		case 1:
			f.Turn += 2 * (rnd.IntN(5) - 2)
		}
		return f
	}
	n := someName(rnd, p)
	if rnd.IntN(3) > 0 {
		if rnd.IntN(3) == 0 {
			return agreeing(t, n, p.s)
		}
		return first(n, 3, other(whole()))
	}
	f := api.Frame{From: n.Opener, To: rnd.IntN(8), Session: n, Turn: rnd.IntN(4), Parts: someParts(t, rnd, p)}
	if rnd.IntN(2) == 0 {
		f.From, f.To = f.To, f.From
	}
	return f
}

// anyPair is a pair with some Config, and some map.
func anyPair(t *testing.T, rnd *rand.Rand) pair {
	t.Helper()
	c := config(2, 1, 1+rnd.IntN(6), rnd.IntN(4))
	if rnd.IntN(10) == 0 {
		c = config(2+rnd.IntN(15), 1+rnd.IntN(32), 1+rnd.IntN(100), rnd.IntN(21))
	}
	return newPair(t, 3, many(rnd.IntN(40)), c, 1+rnd.IntN(3))
}

// anyCalls has any calls be made of both, and counts what came of them.
func (p pair) anyCalls(t *testing.T, rnd *rand.Rand, count map[string]int) {
	t.Helper()
	eager := 1 + rnd.IntN(8)
	for range 50 + rnd.IntN(250) {
		switch n := rnd.IntN(8 + eager); {
		case n == 0:
			if _, e := p.open(t, rnd.IntN(10)-1); e == api.ErrBusy {
				count["no room to open"]++
			} else if e == api.OK {
				count["opened"]++
			}
		case n == 1:
			key := numbered(rnd.IntN(40), 1)[0]
			p.s.Put(key, "w")
			p.also.s.Put(key, "w")
		case n <= eager:
			l, lost := p.tick(t)
			count["sent again"] += len(l)
			count["given up by a tick"] += len(lost)
		default:
			p.any(t, rnd, count)
		}
		p.isInBounds(t)
	}
}

// isInBounds asks that the desk has no more than 16 sessions, no two of one name.
func (p pair) isInBounds(t *testing.T) {
	t.Helper()
	l := p.d.Talks()
	if len(l) > mostTalks {
		t.Fatalf("%d sessions", len(l))
	}
	for i, x := range l {
		for _, y := range l[:i] {
			if x.Session == y.Session {
				t.Fatalf("two of one name: %+v", l)
			}
		}
	}
}

// P16.2, P16.3, P16.4, P16.5, P16.6: any calls, held against the second reading; what comes of them is counted, so that all of it is met with.
func TestAnyCalls(t *testing.T) {
	rnd := rand.New(rand.NewPCG(16, 6))
	count := map[string]int{}
	for range 150 {
		p := anyPair(t, rnd)
		if rnd.IntN(8) == 0 {
			p.skip(lastTick - rnd.IntN(60))
		}
		p.anyCalls(t, rnd, count)
		p.settled(t)
	}
	for _, what := range []string{
		"opened", "no room to open", "sent again", "given up by a tick",
		"begun", "begun and closed", "awaited", "closed", "given up", "come again", "forgotten", "no room", "stale", "refused",
	} {
		if count[what] < 30 {
			t.Errorf("%s: %d times only", what, count[what])
		}
	}
}

// any has both hear some frame, and counts what came of it.
func (p pair) any(t *testing.T, rnd *rand.Rand, count map[string]int) {
	t.Helper()
	f := someFrame(t, rnd, p)
	had := len(p.also.talks)
	place, turn := p.also.place(f.Session), 0
	if place >= 0 {
		turn = p.also.talks[place].x.Last().Turn
	}
	_, _, _, e := p.hear(t, f)
	now := p.also.place(f.Session)
	switch {
	case e == api.ErrStale:
		count["stale"]++
	case e == api.ErrBusy:
		count["no room"]++
	case e != api.OK:
		count["refused"]++
	case place >= 0 && f.Turn < turn:
		count["come again"]++
	case place >= 0 && now < 0:
		count["given up"]++
	case place >= 0 && p.also.talks[now].x.Closed():
		count["closed"]++
	case place >= 0:
		count["awaited"]++
	case p.also.talks[now].x.Closed():
		count["begun and closed"]++
	default:
		count["begun"]++
	}
	if e == api.OK && place < 0 && len(p.also.talks) == had {
		count["forgotten"]++
	}
	if e != api.OK && frame.Check(f) == api.OK && e != api.ErrStale && e != api.ErrBusy {
		t.Fatalf("Hear(%s): %d", brief(f), e)
	}
}
