package session_test

import (
	"math/rand/v2"
	"slices"
	"testing"

	"tideline/api"
	"tideline/frame"
	"tideline/merge"
	"tideline/session"
	"tideline/store"
)

// P16.6: frames of sessions that were given up, or forgotten, are refused for good, of whatever turn; whatever happens meanwhile.
func TestRefusedForGood(t *testing.T) {
	rnd := rand.New(rand.NewPCG(16, 66))
	count := 0
	for range 30 {
		p := anyPair(t, rnd)
		for range 3 {
			p.anyCalls(t, rnd, map[string]int{})
			for _, n := range p.also.gone {
				from := n.Opener
				if from == 3 {
					from = 5
				}
				for _, turn := range []int{0, 1, 2, 3, 4, 5, lastTurn - 1, lastTurn} {
					f := api.Frame{From: from, To: 3, Session: n, Turn: turn, Parts: parts(other(whole()))}
					if frame.Check(f) == api.OK {
						hearRefuses(t, "given up, or forgotten", p.d, p.s, f, api.ErrStale)
						count++
					}
				}
			}
		}
	}
	if count < 2000 {
		t.Error(count)
	}
}

// P16.6: what is refused changes nothing: a desk that is handed refused frames, and peers, between all other calls goes on as one that is not.
func TestGoesOnAfterErrors(t *testing.T) {
	rnd := rand.New(rand.NewPCG(16, 67))
	bad := flaws(first(name(5, 1, 1), 3, other(whole())))
	for range 40 {
		p := anyPair(t, rnd)
		for range 100 {
			for range 3 {
				wrong := bad[rnd.IntN(len(bad))]
				hearRefuses(t, wrong.what, p.d, p.s, wrong.f, wrong.e)
				if f := someFrame(t, rnd, p); frame.Check(f) == api.OK {
					if want := refusalOf(p.also, f); want != api.OK {
						hearRefuses(t, "refused", p.d, p.s, f, want)
					}
				}
			}
			openRefuses(t, "a peer", p.d, p.s, 8+rnd.IntN(9), api.ErrArg)
			if rnd.IntN(3) == 0 {
				p.tick(t)
			}
			p.any(t, rnd, map[string]int{})
		}
		p.settled(t)
	}
}

// P16.7: behind Wait * (Tries + 1) ticks each session is closed, whatever has happened, and nothing is sent again from then on.
func TestNothingWaitsForEver(t *testing.T) {
	rnd := rand.New(rand.NewPCG(16, 7))
	waiting := 0
	for range 80 {
		p := anyPair(t, rnd)
		p.anyCalls(t, rnd, map[string]int{})
		waiting += len(p.d.Talks())
		p.wait(t, p.also.c.Wait*(p.also.c.Tries+1))
		for _, x := range p.d.Talks() {
			if !x.Over {
				t.Fatalf("%v: %+v", p.also.c, p.d.Talks())
			}
			waiting--
		}
		ticks(t, p.d, 200)
	}
	if waiting < 150 {
		t.Errorf("%d sessions waited", waiting)
	}
}

// P16.7: and no sooner: one tick ahead of that a session that was opened just now is still had.
func TestNothingIsGivenUpEarly(t *testing.T) {
	for _, c := range sampleConfigs() {
		for _, x := range bothWays(t, c, many(3)) {
			for range c.Wait*(c.Tries+1) - 1 {
				x.d.Tick()
			}
			isTold(t, x.what, x.d, c.Wait*(c.Tries+1)-1, x.told(c.Tries))
			tickTells(t, x.d, nil, x.f.Session)
		}
	}
}

// someMap is a map of some of these keys, each with one of few versions; what stands there is the same for all of one key and version.
func someMap(rnd *rand.Rand, keys []string) []api.Entry {
	var l []api.Entry
	often := 1 + rnd.IntN(6)
	for i, key := range keys {
		if rnd.IntN(often) > 0 || rnd.IntN(20) == 0 {
			counter, node := 1+rnd.IntN(3), rnd.IntN(2)
			if (i+counter)%4 == 0 {
				l = append(l, dead(key, counter, node))
			} else {
				l = append(l, entry(key, counter, node, string([]byte{byte(counter), byte(node), byte(i)})))
			}
		}
	}
	return l
}

// both are the desks of nodes 3 and 5, of which 3 has opened a session with 5.
type both struct {
	d3, d5 *session.Desk
	s3, s5 *store.Store
	first  api.Frame
}

func opening(t *testing.T, a, b []api.Entry, c api.Config) *both {
	t.Helper()
	x := &both{s3: holding(t, 3, a), s5: holding(t, 5, b)}
	x.d3, x.d5 = desk(t, x.s3, c), desk(t, x.s5, c)
	x.first = opened(t, x.d3, 5)
	return x
}

// to is the desk to which a frame goes.
func (x *both) to(f api.Frame) *session.Desk {
	if f.To == 3 {
		return x.d3
	}
	return x.d5
}

// calmly hands on each frame once; it tells all that were said.
func (x *both) calmly(t *testing.T) []api.Frame {
	t.Helper()
	all := frames(x.first)
	for f, is := x.first, true; is; {
		if f, is, _ = heard(t, x.to(f), f); is {
			all = append(all, f)
		}
		if len(all) > lastTurn+1 {
			t.Fatal(briefly(all))
		}
	}
	return all
}

// closedAtBoth says whether the session is closed at both desks: each has it, and it is over there.
func (x *both) closedAtBoth() bool {
	l, m := x.d3.Talks(), x.d5.Talks()
	return len(l) == 1 && l[0].Over && len(m) == 1 && m[0].Over
}

// P16.9: every frame comes: a session between any maps is closed at both desks, without a tick; then both hold the newest of both, but where there is no room.
func TestCalm(t *testing.T) {
	maps := append(sampleMaps(), under(numbered(1000, most), 3), under(numbered(100, most), 9000), under(numbered(0, 40), 5000))
	for _, a := range maps {
		for _, b := range maps {
			for _, c := range sampleConfigs() {
				x := opening(t, a, b, c)
				all := x.calmly(t)
				n := name(3, 1, 1)
				mine, theirs := (len(all)-1)/2*2, len(all)/2*2-1
				isTold(t, "the opener", x.d3, 0, api.Talk{Session: n, Peer: 5, Turn: mine, Over: true})
				isTold(t, "the peer", x.d5, 0, api.Talk{Session: n, Peer: 3, Turn: theirs, Over: true})
				if !frame.Closing(all[len(all)-1]) {
					t.Fatal(briefly(all))
				}
				if newest, _ := merge.Max(a, b); len(newest) <= most {
					isAs(t, "the opener", x.s3, 3, clockOf(newest), newest)
					isAs(t, "the peer", x.s5, 5, clockOf(newest), newest)
				}
			}
		}
	}
}

// P16.9: many sessions at once, between four nodes, whose frames overtake each other and come more than once, while all write: all are closed, without a tick.
func TestCalmWithMany(t *testing.T) {
	rnd := rand.New(rand.NewPCG(16, 9))
	for range 60 {
		var desks [4]*session.Desk
		var stores [4]*store.Store
		keys := numbered(0, 60)
		for i := range desks {
			stores[i] = holding(t, i, someMap(rnd, keys))
			desks[i] = desk(t, stores[i], config(2+rnd.IntN(15), 1+rnd.IntN(32), 1, 0))
		}
		var bag []api.Frame
		for _, n := range rnd.Perm(24) {
			node := n % 4
			bag = append(bag, opened(t, desks[node], (node+1+n/4%3)%4))
		}
		for len(bag) > 0 {
			i := rnd.IntN(len(bag))
			f := bag[i]
			if rnd.IntN(10) > 0 {
				bag = slices.Delete(bag, i, i+1)
			}
			stores[rnd.IntN(4)].Put(keys[rnd.IntN(60)], "w")
			answer, is, _, e := desks[f.To].Hear(f)
			if e != api.OK && e != api.ErrStale {
				t.Fatal(brief(f), e)
			}
			if is {
				bag = append(bag, answer)
			}
		}
		for _, d := range desks {
			l := d.Talks()
			if d.Now() != 0 || len(l) != 12 || slices.ContainsFunc(l, func(x api.Talk) bool { return !x.Over }) {
				t.Fatalf("%+v", l)
			}
		}
	}
}

// P16.8: each frame in its turn is lost, once, twice, as often as it is sent again: the session is closed at both sides, and leaves the maps that it leaves where every frame comes once.
func TestOneFrameIsLost(t *testing.T) {
	a, b := under(numbered(0, 30), 0), under(numbered(10, 40), 500)
	c := config(2, 1, 3, 3)
	calm := opening(t, a, b, c)
	all := calm.calmly(t)
	for lost := range all {
		for times := 1; times <= c.Tries; times++ {
			x := opening(t, a, b, c)
			bag := frames(x.first)
			gone := 0
			for !x.closedAtBoth() {
				if len(bag) == 0 {
					for _, d := range []*session.Desk{x.d3, x.d5} {
						l, names := d.Tick()
						if bag = append(bag, l...); len(names) > 0 {
							t.Fatalf("the frame %d: %v is given up", lost, names)
						}
					}
					continue
				}
				f := bag[0]
				bag = bag[1:]
				if f.Turn == lost && gone < times {
					gone++
					continue
				}
				if answer, is, _, e := x.to(f).Hear(f); is {
					bag = append(bag, answer)
				} else if e != api.OK && e != api.ErrStale {
					t.Fatal(brief(f), e)
				}
			}
			if gone != times {
				t.Fatalf("the frame %d: lost %d times", lost, gone)
			}
			x.isAs(t, calm)
		}
	}
}

// isAs asks that both maps are those of y.
func (x *both) isAs(t *testing.T, y *both) {
	t.Helper()
	isAs(t, "the opener", x.s3, 3, y.s3.Clock(), heldBy(t, y.s3))
	isAs(t, "the peer", x.s5, 5, y.s5.Clock(), heldBy(t, y.s5))
}

// lossily lets a session's frames be lost, doubled, held up and overtaken, and sent again by ticks, until nothing can happen any more.
func (x *both) lossily(t *testing.T, rnd *rand.Rand) {
	t.Helper()
	bag := frames(x.first)
	loss, doubled, hurried := rnd.IntN(5), rnd.IntN(4), rnd.IntN(3)
	for steps := 0; steps < 3000; steps++ {
		if len(bag) == 0 && x.isQuiet() {
			return
		}
		if len(bag) == 0 || rnd.IntN(4) < hurried {
			d := []*session.Desk{x.d3, x.d5}[rnd.IntN(2)]
			l, _ := d.Tick()
			bag = append(bag, l...)
			continue
		}
		i := rnd.IntN(len(bag))
		f := bag[i]
		if rnd.IntN(8) >= doubled {
			bag = slices.Delete(bag, i, i+1)
		}
		if rnd.IntN(8) < loss {
			continue
		}
		answer, is, _, e := x.to(f).Hear(f)
		if e != api.OK && e != api.ErrStale {
			t.Fatal(brief(f), e)
		}
		if is {
			bag = append(bag, answer)
		}
	}
}

// isQuiet says whether no desk waits for anything.
func (x *both) isQuiet() bool {
	for _, y := range append(x.d3.Talks(), x.d5.Talks()...) {
		if !y.Over {
			return false
		}
	}
	return true
}

// P16.8: whatever becomes of the frames on the way: where the session is closed at both sides, the maps are what they are where every frame comes once.
func TestLosses(t *testing.T) {
	rnd := rand.New(rand.NewPCG(16, 8))
	closed, not, unlike := 0, 0, 0
	for range 800 {
		keys := [][]string{oddKeys(), numbered(0, 40), numbered(0, most)}[rnd.IntN(3)]
		a, b := someMap(rnd, keys), someMap(rnd, keys)
		if rnd.IntN(8) == 0 {
			a, b = many(most), under(numbered(rnd.IntN(most), most), 700)
		}
		c := config(2+rnd.IntN(15), 1+rnd.IntN(32), 1+rnd.IntN(5), rnd.IntN(6))
		x, calm := opening(t, a, b, c), opening(t, a, b, c)
		calm.calmly(t)
		x.lossily(t, rnd)
		if !x.closedAtBoth() {
			not++
			continue
		}
		closed++
		x.isAs(t, calm)
		if !slices.Equal(a, heldBy(t, x.s3)) || !slices.Equal(b, heldBy(t, x.s5)) {
			unlike++
		}
	}
	if closed < 200 || not < 100 || unlike < 150 {
		t.Errorf("%d sessions were closed, %d were not; %d had something to do", closed, not, unlike)
	}
}
