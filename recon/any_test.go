package recon_test

import (
	"math/rand/v2"
	"testing"

	"tideline/api"
	"tideline/frame"
)

// someParts are parts that may be, of all kinds: of what some map has, of nothing, or of other tallies.
func someParts(rnd *rand.Rand, keys []string) []api.Part {
	m := plainOf(0, someMap(rnd, keys))
	var l []api.Part
	room := most
	for i := rnd.IntN(3); i < len(keys)-1 && rnd.IntN(20) > 0; {
		j := min(i+1+rnd.IntN(1+rnd.IntN(len(keys))), len(keys)-1)
		r := rng(keys[i], keys[j])
		i = j + rnd.IntN(2)
		if i >= len(keys)-1 && rnd.IntN(2) == 0 {
			r = from(r.Lo)
		}
		p := somePart(rnd, m, r)
		if room -= len(p.Entries); room >= 0 {
			l = append(l, p)
		}
	}
	return l
}

func somePart(rnd *rand.Rand, m *plain, r api.Range) api.Part {
	held := m.in(r)
	switch n := rnd.IntN(5); {
	case n < 2:
		return m.print(r)
	case n == 2:
		return print(r, tally(1+rnd.IntN(most), rnd.Uint64(), rnd.Uint64()))
	case n == 3 && len(held) > 0:
		return reply(r, held[rnd.IntN(len(held)):]...)
	}
	return items(r, held...)
}

// somePlaced is a frame of some turn, near that which the talk is at, mostly the talk's.
func somePlaced(rnd *rand.Rand, p pair, l []api.Part) api.Frame {
	turn := p.x.Last().Turn
	f := to(p.x, turn+1, l...)
	switch rnd.IntN(12) {
	case 0:
		f.Turn = turn - 1
	case 1:
		f.Turn = turn + 1 + 2*(rnd.IntN(7)-3)
	case 2:
		f.Turn = rnd.IntN(70) - 3
	case 3:
		f.Session.Number += rnd.IntN(3) - 1
	case 4:
		f.Session.Life += rnd.IntN(3) - 1
	case 5:
		f.From = rnd.IntN(9)
	case 6:
		f.To = rnd.IntN(9)
	case 7:
		f.Session.Opener, f.Turn = 8-f.Session.Opener, f.Turn^1
	}
	return f
}

// written does something to the store elsewhere, and to the second reading of it.
func (p pair) written(t *testing.T, rnd *rand.Rand, keys []string) {
	t.Helper()
	key := keys[rnd.IntN(len(keys))]
	var v api.Version
	var e api.Errno
	x := api.Entry{Key: key}
	if rnd.IntN(2) == 0 {
		x.Value = "w"
		v, e = p.s.Put(key, "w")
	} else {
		x.Dead = true
		v, e = p.s.Delete(key)
	}
	if x.Version = v; e == api.OK {
		p.also.m.take(x)
	}
	p.isOne(t, "written elsewhere")
}

// P14.4, P14.5, P14.6, P14.10: any frames, the awaited ones and others, held against the second reading; the maps only ever move up.
func TestAnyFrames(t *testing.T) {
	rnd := rand.New(rand.NewPCG(14, 4))
	count := map[string]int{}
	for range 300 {
		keys := [][]string{oddKeys(), numbered(0, 40), numbered(0, most), numbered(100, 400)}[rnd.IntN(4)]
		few := keys[:min(len(keys), most)]
		p := pairs(t, config(2+rnd.IntN(15), 1+rnd.IntN(32)), someMap(rnd, few))[rnd.IntN(2)]
		if rnd.IntN(3) == 0 {
			p.moved(t, lastTurn-10)
		}
		for range rnd.IntN(80) {
			if rnd.IntN(5) == 0 {
				p.written(t, rnd, keys)
			}
			l := someParts(rnd, keys)
			if len(l) == 0 && rnd.IntN(4) > 0 {
				continue
			}
			was := heldBy(t, p.s)
			_, is, h, e := p.hear(t, somePlaced(rnd, p, l))
			isAbove(t, "any frame", p.s, was)
			switch {
			case e == api.ErrStale:
				count["stale"]++
			case e != api.OK:
				count["refused"]++
			case is:
				count["answered"]++
			default:
				count["not answered"]++
			}
			count["taken"] += h.Taken
			count["full"] += h.Refused
		}
		if p.x.Closed() {
			count["closed"]++
		} else if p.x.Over() {
			count["over"]++
		}
	}
	for _, what := range []string{"stale", "refused", "answered", "not answered", "taken", "full", "closed", "over"} {
		if count[what] < 20 {
			t.Errorf("%s: %d times only", what, count[what])
		}
	}
}

// P14.7, P14.9, P14.10: sides whose stores are written to in the midst, and whose frames come more than once, are as the second reading says, and close.
func TestAnySessions(t *testing.T) {
	rnd := rand.New(rand.NewPCG(14, 10))
	for range 400 {
		keys := [][]string{oddKeys(), numbered(0, 40), numbered(0, most)}[rnd.IntN(3)]
		a := someMap(rnd, keys)
		b := near(rnd, a, keys)
		c := config(2+rnd.IntN(15), 1+rnd.IntN(32))
		x := startPair(t, 3, a, c, 5, 1, 1)
		y := joinPair(t, 5, b, c, x.x.Last())
		all := []api.Frame{x.x.Last(), y.x.Last()}
		for turns := 0; !x.x.Over() || !y.x.Over(); turns++ {
			if turns > lastTurn {
				t.Fatalf("%s, %s", told(look(x.x)), told(look(y.x)))
			}
			p := []pair{x, y}[turns%2]
			if rnd.IntN(3) == 0 {
				p.written(t, rnd, keys)
			}
			f := all[len(all)-1]
			for range rnd.IntN(4) {
				p.hear(t, all[rnd.IntN(len(all)-1)])
			}
			if answer, is, _, e := p.hear(t, f); is && e == api.OK {
				all = append(all, answer)
			}
			p.hear(t, f)
		}
		if !x.x.Closed() || !y.x.Closed() || !frame.Closing(all[len(all)-1]) {
			t.Fatalf("%s, %s", told(look(x.x)), told(look(y.x)))
		}
	}
}
