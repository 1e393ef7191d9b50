package node_test

import (
	"math/rand/v2"
	"slices"
	"testing"

	"tideline/api"
	"tideline/node"
	"tideline/wire"
)

// state is a way in which a node of id 3 may be.
type state struct {
	what string
	make func(t *testing.T) pair
}

// states are nodes with no session, with one, with 16, open ones, closed ones, given up and forgotten ones; with no entry, with some, and with no room; in several lives.
func states() []state {
	fresh := func(t *testing.T) pair { return fedPair(t, 3, config(2, 1, 3, 1), many(9)) }
	full := func(t *testing.T) pair {
		p := fresh(t)
		for i := range mostTalks {
			p.deliver(t, bytesOf(t, first(name(5, 2, i+1), 3, other(whole()))))
		}
		return p
	}
	return []state{
		{"new", func(t *testing.T) pair { return newPair(t, 3, plainConfig()) }},
		{"no session", fresh},
		{"one session, opened", func(t *testing.T) pair {
			p := fresh(t)
			p.open(t, 5)
			p.tick(t)
			return p
		}},
		{"one session, begun", func(t *testing.T) pair {
			p := fresh(t)
			p.deliver(t, bytesOf(t, first(name(5, 1, 1), 3, other(whole()))))
			return p
		}},
		{"sessions of all sorts, and no room for a key", func(t *testing.T) pair {
			p := fedPair(t, 3, config(2, 1, 3, 1), many(most))
			data, _ := p.open(t, 5)
			p.deliver(t, bytesOf(t, back(frameOf(t, data))))
			p.deliver(t, bytesOf(t, first(name(5, 1, 1), 3, agreed(p.n))))
			p.deliver(t, bytesOf(t, first(name(6, 1, 1), 3, other(whole()))))
			p.deliver(t, bytesOf(t, api.Frame{From: 6, To: 3, Session: name(6, 1, 1), Turn: 2, Parts: tooMuch()}))
			p.open(t, 6)
			for range 4 {
				p.tick(t)
			}
			return p
		}},
		{"16 sessions, all open", full},
		{"16 sessions, some closed", func(t *testing.T) pair {
			p := full(t)
			for _, i := range []int{3, 9, 12} {
				p.deliver(t, bytesOf(t, api.Frame{From: 5, To: 3, Session: name(5, 2, i), Turn: 2}))
			}
			return p
		}},
		{"behind a crash with 16", func(t *testing.T) pair {
			p := full(t)
			p.crash(t)
			p.start(t)
			return p
		}},
	}
}

// framesFor are such as would begin a session there, are awaited, would come again, are stale, or go elsewhere.
func framesFor(p pair) []api.Frame {
	l := []api.Frame{
		first(name(5, 1, 1), 3, other(whole())),
		first(name(7, 9, 9), 3, agreed(p.n)),
		first(name(5, 3, 1), 4, other(whole())),
		{From: 5, To: 3, Session: name(5, 9, 9), Turn: 2, Parts: parts(items(whole(), at("new")), reply(whole(), at("z")))[:1]},
	}
	for _, x := range p.also.talks[:min(2, len(p.also.talks))] {
		last := x.x.Last()
		l = append(l, back(last, items(whole(), entry("a", 9, 1, "v"), dead("b", 8, 2))))
		if last.Turn > 0 {
			again := back(last)
			again.Turn = last.Turn - 1
			if again.Parts = parts(other(whole())); again.Turn > 0 {
				again.Parts = nil
			}
			l = append(l, again)
		}
	}
	return l
}

// P17.4: bytes that are no frame are ErrFrame: each frame cut short at every place, and with more behind it, at nodes of all sorts; behind all of them the node goes on as if there had been none.
func TestCutShortAndMore(t *testing.T) {
	for _, x := range states() {
		p := x.make(t)
		for _, f := range framesFor(p) {
			b := bytesOf(t, f)
			for i := range b {
				refusesBytes(t, x.what+", cut short", p.n, b[:i], api.ErrFrame)
				p.also.k.Bad++
			}
			for _, more := range [][]byte{{0}, {1}, {0xFF}, b, make([]byte, 1000)} {
				refusesBytes(t, x.what+", more behind", p.n, slices.Concat(b, more), api.ErrFrame)
				p.also.k.Bad++
			}
		}
		p.settled(t)
	}
}

// P17.4: with single bytes changed: what wire.Decode refuses is ErrFrame, and all else is what the second reading says.
func TestSingleBytesChanged(t *testing.T) {
	rnd := rand.New(rand.NewPCG(17, 4))
	refused, taken := 0, 0
	for _, x := range states() {
		for _, f := range framesFor(x.make(t)) {
			b := bytesOf(t, f)
			p := x.make(t)
			for i := range b {
				for _, to := range []byte{b[i] ^ 1, b[i] + 1, 0, 0x80, byte(rnd.IntN(256))} {
					if to == b[i] {
						continue
					}
					changed := slices.Clone(b)
					changed[i] = to
					_, want := wire.Decode(changed)
					_, _, e := p.deliver(t, changed)
					if (want == api.ErrFrame) != (e == api.ErrFrame) {
						t.Fatalf("%x: %d, want %d", changed, e, want)
					}
					if e == api.OK {
						taken++
					} else {
						refused++
					}
				}
			}
			p.settled(t)
		}
	}
	if refused < 1000 || taken < 100 {
		t.Errorf("%d refused, %d taken", refused, taken)
	}
}

// P17.4, R1: any bytes, of any length, are refused, or heard, and no call panics.
func TestAnyBytes(t *testing.T) {
	rnd := rand.New(rand.NewPCG(17, 41))
	for _, x := range states() {
		p := x.make(t)
		for i := range 2000 {
			b := make([]byte, rnd.IntN(60))
			for j := range b {
				b[j] = byte(rnd.IntN(256) >> (rnd.IntN(9)))
			}
			if i%3 == 0 {
				// So that more of them are nearly frames.
				b = append([]byte{5, 3, 5, 1, byte(i%100 + 1), byte(rnd.IntN(4)), byte(rnd.IntN(3))}, b...)
			}
			p.deliver(t, b)
		}
		for _, n := range []int{65535, 65536, 65537, 1 << 20} {
			p.deliver(t, make([]byte, n))
		}
		p.settled(t)
	}
}

// P17.4, R2: ErrStale and ErrBusy at nodes of all sorts, of all frames that these refuse; behind all of them the node goes on as if there had been none.
func TestRefusedChangesNothing(t *testing.T) {
	count := map[api.Errno]int{}
	for _, x := range states() {
		p, untold := x.make(t), x.make(t)
		for _, s := range []api.Name{name(5, 1, 1), name(5, 2, 1), name(5, 2, 16), name(5, 3, 1), name(3, 1, 1), name(3, 2, 1), name(6, 1, 1), name(4, 1, 1), name(7, mostLives, mostLives)} {
			for turn := range 6 {
				for to := range 8 {
					f := api.Frame{From: s.Opener, To: to, Session: s, Turn: turn, Parts: parts(other(whole()))}
					if turn%2 == 1 {
						f.From, f.To = f.To, f.From
					}
					b, e := wire.Encode(f)
					if e != api.OK {
						continue
					}
					if want := refusalOf(p.also, f); want != api.OK {
						refusesBytes(t, x.what, p.n, b, want)
						p.also.deliver(b)
						p.isOne(t, x.what)
						count[want]++
					}
				}
			}
		}
		// The node that was told nothing of these goes on alike, but for what was counted.
		p.settled(t)
		untold.settled(t)
		k, l := p.n.Counters(), untold.n.Counters()
		if k.Stale, k.Bad, l.Stale, l.Bad = 0, 0, 0, 0; k != l || !slices.Equal(p.n.Talks(), untold.n.Talks()) || !slices.Equal(p.n.Map(), untold.n.Map()) {
			t.Errorf("%s: %+v, %+v", x.what, k, l)
		}
	}
	if count[api.ErrStale] < 500 || count[api.ErrBusy] < 5 {
		t.Error(count)
	}
}

// refusalOf is what a node that is as p says to a frame that may be, if it refuses it.
func refusalOf(p *plainNode, f api.Frame) api.Errno {
	if f.To != p.s.Node() {
		return api.ErrStale
	}
	if i := p.place(f.Session); i >= 0 {
		last, over := p.talks[i].x.Last(), p.talks[i].x.Over()
		if f.From == last.To && (f.Turn == last.Turn-1 || f.Turn == last.Turn+1 && !over) {
			return api.OK
		}
		return api.ErrStale
	}
	if !p.isBegun(f) {
		return api.ErrStale
	}
	closed := func(x api.Talk) bool { return x.Over }
	if l := p.told(); len(l) == mostTalks && !slices.ContainsFunc(l, closed) {
		return api.ErrBusy
	}
	return api.OK
}

// P17.3: the errors of Open at nodes of all sorts; behind them the node goes on as if there had been none.
func TestOpenRefusesAtAllNodes(t *testing.T) {
	for _, x := range states() {
		p := x.make(t)
		for _, peer := range append(outside(0, 7), 3) {
			openRefuses(t, x.what, p.n, peer, api.ErrArg)
		}
		p.settled(t)
	}
}

// P17.1 to P17.6: a node goes on as its second reading does, also where every call that it refuses is made of it in between.
func TestGoesOnAfterErrors(t *testing.T) {
	rnd := rand.New(rand.NewPCG(17, 2))
	for _, x := range states() {
		p := x.make(t)
		for range 60 {
			refuseAll(t, p.n)
			p.also.k.Bad += 2
			p.anyCall(t, rnd, map[string]int{})
			if !p.also.up {
				p.start(t)
			}
		}
		p.settled(t)
	}
}

// refuseAll makes of a node that is up calls that are refused at all times.
func refuseAll(t *testing.T, n *node.Node) {
	t.Helper()
	asksForErrors(t, n, tooLongKey, "", api.ErrKey, api.ErrKey)
	openRefuses(t, "itself", n, 3, api.ErrArg)
	openRefuses(t, "no peer", n, 8, api.ErrArg)
	startRefuses(t, n, api.ErrUp)
	refusesBytes(t, "nothing", n, nil, api.ErrFrame)
	refusesBytes(t, "nothing of sense", n, []byte("tide"), api.ErrFrame)
}
