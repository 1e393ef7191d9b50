package node_test

import (
	"slices"
	"testing"

	"tideline/api"
	"tideline/node"
)

// P17.3: a tick at which nothing is due tells nothing, and counts nothing; of a node with no session, with one that is closed, with one that waits.
func TestNothingIsDue(t *testing.T) {
	n := holding(t, 3, config(2, 1, 100, 20), many(9))
	ticks(t, n, 300)
	answered(t, n, first(name(5, 1, 1), 3, agreed(n)))
	ticks(t, n, 300)
	opened(t, n, 5)
	ticks(t, n, 99)
}

// P17.3: a frame that nobody answers goes out again, as it was, each Wait ticks, Tries times; then the session is given up.
func TestSentAgainAndGivenUp(t *testing.T) {
	for _, c := range []api.Config{config(2, 1, 1, 0), config(2, 32, 1, 3), config(2, 1, 7, 1), config(16, 32, 100, 20)} {
		for _, n := range lives(t, 3, c, 20) {
			waitsInVain(t, n, c, opened(t, n, 5))
			waitsInVain(t, n, c, answered(t, n, first(name(6, 1, 1), 3, other(whole()))))
		}
	}
}

// waitsInVain lets nobody answer the frame that the node has sent last.
func waitsInVain(t *testing.T, n *node.Node, c api.Config, f api.Frame) {
	t.Helper()
	had := n.Talks()
	for i := range c.Tries {
		writes(t, n, "later")
		ticks(t, n, c.Wait-1)
		counts(t, "again", n, api.Counters{Sent: 1, Again: 1, Moved: moved([]api.Frame{f})}, func() { tickTells(t, n, f) })
		if l := n.Talks(); l[len(l)-1].Tries != i+1 {
			t.Fatal(i, l)
		}
	}
	ticks(t, n, c.Wait-1)
	counts(t, "given up", n, api.Counters{Lost: 1}, func() { tickTells(t, n) })
	if l := n.Talks(); !slices.Equal(l, had[:len(had)-1]) {
		t.Fatal(l)
	}
	refuses(t, "given up", n, back(f, other(whole())), api.ErrStale)
	ticks(t, n, 2*c.Wait)
}

// P17.3: several that are due at one tick go out by rising names, in whatever order the node came to have them; others are given up at that same tick.
func TestSeveralAtOneTick(t *testing.T) {
	n := holding(t, 3, config(2, 1, 2, 1), many(9))
	begin := func(s api.Name) api.Frame { return answered(t, n, first(s, 3, other(whole()))) }
	seven, four := begin(name(7, 1, 1)), begin(name(4, 2, 1))
	ticks(t, n, 1)
	counts(t, "two again", n, api.Counters{Sent: 2, Again: 2}, func() { tickTells(t, n, four, seven) })
	five, six := opened(t, n, 5), opened(t, n, 6)
	late, early := begin(name(4, 3, 1)), begin(name(0, mostLives, mostLives))
	ticks(t, n, 1)
	counts(t, "four again, two given up", n, api.Counters{Sent: 4, Again: 4, Lost: 2}, func() {
		tickTells(t, n, early, five, six, late)
	})
	ticks(t, n, 1)
	counts(t, "four given up", n, api.Counters{Lost: 4}, func() { tickTells(t, n) })
	ticks(t, n, 10)
}

// P17.3: 16 frames, with entries in them, go out again at one tick; all their entries are counted.
func TestAllAtOnce(t *testing.T) {
	n := holding(t, 3, config(2, 32, 1, 2), many(20))
	for i := range mostTalks {
		answered(t, n, first(name(5, 1, i+1), 3, other(whole())))
	}
	for range 2 {
		counts(t, "all again", n, api.Counters{Sent: mostTalks, Again: mostTalks, Moved: 20 * mostTalks}, func() {
			if l := tick(t, n); len(l) != mostTalks {
				t.Fatal(briefly(l))
			}
		})
	}
	counts(t, "all given up", n, api.Counters{Lost: mostTalks}, func() { tickTells(t, n) })
}

// P17.3: ErrDown, and no time goes by while the node is down; what it waited for is gone, and what the next life waits for is counted from its Start on.
func TestTickWhileDown(t *testing.T) {
	n := holding(t, 3, config(2, 1, 3, 1), many(9))
	opened(t, n, 5)
	ticks(t, n, 2)
	n.Crash()
	for range 10 {
		tickIsDown(t, n)
	}
	n.Start()
	ticks(t, n, 20)
	f := opened(t, n, 6)
	ticks(t, n, 2)
	tickTells(t, n, f)
}

func tickIsDown(t *testing.T, n *node.Node) {
	t.Helper()
	changes(t, "Tick", n, api.Counters{}, func() {
		if l, e := n.Tick(); len(l) > 0 || e != api.ErrDown {
			t.Fatal(len(l), e)
		}
	})
}

// P17.3, P17.4: a frame that has come again puts nothing off; one that was awaited does, and sets the Tries to 0.
func TestPutOff(t *testing.T) {
	n := holding(t, 3, config(2, 1, 3, 2), many(9))
	begin := first(name(5, 1, 1), 3, other(whole()))
	f := answered(t, n, begin)
	ticks(t, n, 2)
	answered(t, n, begin)
	tickTells(t, n, f)
	ticks(t, n, 2)
	f = answered(t, n, back(f, other(whole())))
	if l := n.Talks(); !slices.Equal(l, []api.Talk{{Session: name(5, 1, 1), Peer: 5, Turn: 3}}) {
		t.Fatal(l)
	}
	ticks(t, n, 2)
	tickTells(t, n, f)
}
