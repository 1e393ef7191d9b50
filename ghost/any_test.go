package ghost_test

import (
	"math/rand/v2"
	"slices"
	"testing"

	"tideline/api"
	"tideline/ghost"
)

// pair is a ghost, and a second reading of the promises that is told all that the ghost is.
type pair struct {
	g    *ghost.Ghost
	also *plain
}

// anyList is mostly a map of what was written, often near what the node held; at times something is wrong with it.
func anyList(rnd *rand.Rand, p pair, node int) []api.Entry {
	var l []api.Entry
	if rnd.IntN(4) > 0 {
		l = slices.Clone(p.also.held(node))
	}
	for range rnd.IntN(3) {
		if len(p.also.writes) > 0 {
			l = laid(l, p.also.writes[rnd.IntN(len(p.also.writes))], rnd.IntN(8) > 0)
		}
	}
	if rnd.IntN(6) == 0 {
		l = laid(l, anyEntry(rnd), false)
	}
	if len(l) > 0 && rnd.IntN(12) == 0 {
		i := rnd.IntN(len(l))
		l = slices.Delete(l, i, i+1)
	}
	if len(l) > 1 && rnd.IntN(20) == 0 {
		l[0], l[1] = l[1], l[0]
	}
	return l
}

// laid is l with x under its key; if it is asked for, just where x is the newer one.
func laid(l []api.Entry, x api.Entry, upward bool) []api.Entry {
	i, is := place(l, x.Key)
	switch {
	case !is:
		return slices.Insert(l, i, x)
	case !upward || isNewer(x.Version, l[i].Version):
		l[i] = x
	}
	return l
}

// anyNode is mostly one.
func anyNode(rnd *rand.Rand) int {
	if rnd.IntN(15) == 0 {
		return []int{-1, allNodes, lowInt, highInt}[rnd.IntN(4)]
	}
	return rnd.IntN(allNodes)
}

// call is one of all calls, with all kinds of arguments, held against the second reading; it tells what error came of it.
func (p pair) call(t *testing.T, rnd *rand.Rand) api.Errno {
	t.Helper()
	if rnd.IntN(3) == 0 {
		x := anyEntry(rnd)
		e, want := p.g.Wrote(x), p.also.wrote(x)
		if e != want {
			t.Fatalf("Wrote(%s): %d, want %d", quoted(x), e, want)
		}
		return e
	}
	node := anyNode(rnd)
	l := anyList(rnd, p, node)
	key, wrong := p.also.sees(node, l)
	if k, e := p.g.Sees(node, l); k != key || e != wrong {
		t.Fatalf("Sees(%d, %s), which held %s: %q, %d, want %q, %d", node, short(l), short(p.also.held(node)), k, e, key, wrong)
	}
	return wrong
}

// isOne asks that all that can be told is the same.
func (p pair) isOne(t *testing.T) {
	t.Helper()
	for node := -1; node <= allNodes; node++ {
		holds(t, p.g, node, p.also.held(node))
	}
	for _, x := range p.also.writes {
		for _, y := range append(others(x), x) {
			if p.g.Written(y) != p.also.written(y) {
				t.Fatalf("Written(%s): %t", quoted(y), p.g.Written(y))
			}
		}
	}
}

// P19.1, P19.2: any calls, held against the second reading.
func TestAnyCalls(t *testing.T) {
	came := map[api.Errno]int{}
	for seed := range uint64(60) {
		rnd := rand.New(rand.NewPCG(192, seed))
		p := pair{ghost.New(), &plain{}}
		for n := range 300 {
			came[p.call(t, rnd)]++
			if n%60 == 59 {
				p.isOne(t)
			}
		}
	}
	for _, e := range []api.Errno{api.OK, api.ErrArg, api.ErrKey, api.ErrVersion, api.ErrValue, api.ErrDead, api.ErrOrder, api.ErrTwice, api.ErrBack, api.ErrForged} {
		if came[e] < 10 {
			t.Errorf("error %d: %d times", e, came[e])
		}
	}
}

// R5: two ghosts that are told the same tell the same, whatever a third one is told meanwhile.
func TestSameCallsSameAnswers(t *testing.T) {
	for seed := range uint64(10) {
		one, other, third := rand.New(rand.NewPCG(5, seed)), rand.New(rand.NewPCG(5, seed)), rand.New(rand.NewPCG(seed, 5))
		x, y, z := pair{ghost.New(), &plain{}}, pair{ghost.New(), &plain{}}, pair{ghost.New(), &plain{}}
		for range 200 {
			e := x.call(t, one)
			z.call(t, third)
			if f := y.call(t, other); e != f {
				t.Fatalf("%d and %d", e, f)
			}
		}
		for node := range allNodes {
			holds(t, x.g, node, y.g.Held(node))
		}
		x.isOne(t)
		y.isOne(t)
		z.isOne(t)
	}
}
