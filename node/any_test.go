package node_test

import (
	"math/rand/v2"
	"testing"

	"tideline/api"
	"tideline/frame"
	"tideline/wire"
)

// someName is a name that is near those of sessions that the node has, or had.
func someName(rnd *rand.Rand, p pair) api.Name {
	s := name(rnd.IntN(8), 1+rnd.IntN(4), 1+rnd.IntN(12))
	if l := p.also.talks; len(l) > 0 && rnd.IntN(3) == 0 {
		s = l[rnd.IntN(len(l))].x.Session()
	}
	if l := p.also.gone; len(l) > 0 && rnd.IntN(5) == 0 {
		s = l[rnd.IntN(len(l))]
	}
	switch rnd.IntN(6) {
	case 0:
		s.Number += rnd.IntN(3) - 1
	case 1:
		s.Life += rnd.IntN(3) - 1
	}
	return s
}

// someParts are parts that may be: few, of all kinds, or so many that there is no answer to them.
func someParts(rnd *rand.Rand, p pair) []api.Part {
	key := numbered(rnd.IntN(40), 1)[0]
	x := entry(key, 1+rnd.IntN(90), rnd.IntN(8), "s")
	switch rnd.IntN(9) {
	case 0:
		return nil
	case 1:
		return parts(agreed(p.n))
	case 2:
		return parts(items(from(key), x))
	case 3:
		return parts(reply(whole(), x))
	case 4:
		return parts(other(rng("", "a")), items(rng("a", "b"), at("a"), at("aa")), reply(from("b"), x))
	case 5:
		if rnd.IntN(4) == 0 {
			return tooMuch()
		}
	}
	return parts(other(whole()))
}

// someFrame is one of a session that the node has, mostly such as it awaits, or one that would begin a session, or any other one; not all may be.
func someFrame(rnd *rand.Rand, p pair) api.Frame {
	l := p.also.talks
	if len(l) > 0 && rnd.IntN(2) == 0 {
		f := back(l[rnd.IntN(len(l))].x.Last(), someParts(rnd, p)...)
		switch rnd.IntN(6) {
		case 0:
			f.Turn -= 2
		case 1:
			f.Turn += 2 * (rnd.IntN(5) - 2)
		}
		if f.Turn == 0 {
			f.Parts = parts(other(whole()))
		}
		return f
	}
	s, id := someName(rnd, p), p.also.s.Node()
	switch rnd.IntN(6) {
	case 0:
		return first(s, id, agreed(p.n))
	case 1:
		return api.Frame{From: s.Opener, To: rnd.IntN(8), Session: s, Turn: 2 * rnd.IntN(3), Parts: someParts(rnd, p)}
	case 2:
		return api.Frame{From: rnd.IntN(8), To: s.Opener, Session: s, Turn: 1 + 2*rnd.IntN(3), Parts: someParts(rnd, p)}
	}
	return first(s, id, other(whole()))
}

// someBytes are those of some frame, or of such a one spoilt; none, if the frame may not be.
func someBytes(rnd *rand.Rand, p pair) []byte {
	b, e := wire.Encode(someFrame(rnd, p))
	if e != api.OK || rnd.IntN(20) > 0 {
		return b
	}
	switch rnd.IntN(3) {
	case 0:
		return b[:rnd.IntN(len(b))]
	case 1:
		return append(b, byte(rnd.IntN(3)))
	}
	b[rnd.IntN(len(b))] ^= 1 << rnd.IntN(8)
	return b
}

// anyPair is a pair of some id, with some Config, and some map.
func anyPair(t *testing.T, rnd *rand.Rand) pair {
	t.Helper()
	c := config(2, 1, 1+rnd.IntN(12), rnd.IntN(4))
	if rnd.IntN(6) == 0 {
		c = config(2+rnd.IntN(15), 1+rnd.IntN(32), 1+rnd.IntN(12), rnd.IntN(21))
	}
	held := many(rnd.IntN(40))
	if rnd.IntN(6) == 0 {
		held = many(most - rnd.IntN(3))
	}
	return fedPair(t, rnd.IntN(8), c, held)
}

// anyCall has some call be made of both, and counts what came of it.
func (p pair) anyCall(t *testing.T, rnd *rand.Rand, count map[string]int) {
	t.Helper()
	key := numbered(rnd.IntN(most+20), 1)[0]
	if rnd.IntN(20) == 0 {
		key = keys()[rnd.IntN(len(keys()))]
	}
	switch n := rnd.IntN(120); {
	case n < 4:
		p.put(t, key, "w")
	case n < 8:
		p.remove(t, key)
	case n < 12:
		p.reads(t, key, ranges()[rnd.IntN(len(ranges()))])
	case n < 25:
		if _, e := p.open(t, rnd.IntN(10)-1); e == api.ErrBusy {
			count["no room to open"]++
		}
	case n < 50:
		if l := p.tick(t); len(l) > 0 {
			count["sent again"]++
		}
	case n == 50:
		p.crash(t)
		count["crashed"]++
	case n < 60:
		p.start(t)
	default:
		p.anyDeliver(t, rnd, count)
	}
}

func (p pair) anyDeliver(t *testing.T, rnd *rand.Rand, count map[string]int) {
	t.Helper()
	was := p.also.k
	b := someBytes(rnd, p)
	_, h, e := p.deliver(t, b)
	k := p.also.k
	for what, is := range map[string]bool{
		"down":                e == api.ErrDown,
		"no frame":            e == api.ErrFrame,
		"stale":               e == api.ErrStale,
		"no room":             e == api.ErrBusy,
		"heard":               e == api.OK && k.Again == was.Again,
		"come again":          e == api.OK && k.Again > was.Again,
		"closed":              k.Closed > was.Closed,
		"given up":            k.Lost > was.Lost,
		"given up, and taken": k.Lost > was.Lost && h.Taken > 0,
		"taken":               h.Taken > 0,
		"refused":             h.Refused > 0,
	} {
		if is {
			count[what]++
		}
	}
}

// P17.1 to P17.8: any calls, through several lives, held against the second reading; what comes of them is counted, so that all of it is met with.
func TestAnyCalls(t *testing.T) {
	rnd := rand.New(rand.NewPCG(17, 7))
	count := map[string]int{}
	for range 80 {
		p := anyPair(t, rnd)
		for range 100 + rnd.IntN(500) {
			was := p.n.Map()
			p.anyCall(t, rnd, count)
			movesUp(t, was, p.n.Map())
		}
		if k := p.n.Counters(); k.Closed+k.Lost > p.also.had || k.Again > k.Sent {
			t.Fatalf("%+v, of %d sessions", k, p.also.had)
		}
		p.settled(t)
	}
	for _, what := range []string{
		"no room to open", "sent again", "crashed", "down", "no frame", "stale", "no room",
		"heard", "come again", "closed", "given up", "given up, and taken", "taken", "refused",
	} {
		if count[what] < 20 {
			t.Errorf("%s: %d times only", what, count[what])
		}
	}
}

// movesUp asks that under each key of an earlier map a later one holds an entry that is the same, or newer.
func movesUp(t *testing.T, earlier, later []api.Entry) {
	t.Helper()
	now := map[string]api.Entry{}
	for _, x := range later {
		now[x.Key] = x
	}
	for _, x := range earlier {
		y, found := now[x.Key]
		older := y.Version.Counter < x.Version.Counter || y.Version.Counter == x.Version.Counter && y.Version.Node < x.Version.Node
		if !found || older || y.Version == x.Version && y != x {
			t.Fatalf("%q was followed by %q", quoted(x), quoted(y))
		}
	}
}

// P17.4, W3, W4: any bytes come between the frames of a session that goes on: what they are taken for moves maps up alone, and the session comes to its end all the same.
func TestAnyBytesBetween(t *testing.T) {
	rnd := rand.New(rand.NewPCG(17, 44))
	for range 60 {
		p, q := fedPair(t, 0, plainConfig(), many(30)), fedPair(t, 7, plainConfig(), under(numbered(20, 30), 70))
		both := map[int]pair{0: p, 7: q}
		data, _ := p.open(t, 7)
		f := frameOf(t, data)
		own := f.Session
		for len(data) > 0 {
			f = frameOf(t, data)
			for range 10 {
				x := both[rnd.IntN(2)*7]
				b := someBytes(rnd, x)
				if g, e := wire.Decode(b); e == api.OK && g.Session == own {
					continue
				}
				was := x.n.Map()
				x.deliver(t, b)
				movesUp(t, was, x.n.Map())
			}
			var e api.Errno
			if data, _, e = both[f.To].deliver(t, data); e != api.OK {
				t.Fatal(brief(f), e)
			}
		}
		if !frame.Closing(f) {
			t.Fatal(brief(f))
		}
		p.settled(t)
		q.settled(t)
	}
}
