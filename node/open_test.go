package node_test

import (
	"testing"

	"tideline/api"
	"tideline/frame"
	"tideline/node"
	"tideline/tally"
)

// P17.3: with each peer of each node: the session's name, and the bytes of the frame of turn 0, which says what the node holds; in its first life, a later one, and the last one.
func TestOpen(t *testing.T) {
	for id := range 8 {
		for _, l := range sampleMaps() {
			n := made(t, id, plainConfig())
			feed(t, n, l)
			opensAll(t, n, id, 1, min(len(l), 1))
			restart(t, n)
			opensAll(t, n, id, 2, 0)
			lastLife(t, n)
			opensAll(t, n, id, mostLives, 0)
		}
	}
}

// opensAll opens a session with each peer, in that life of a node that opened so many already.
func opensAll(t *testing.T, n *node.Node, id, life, already int) {
	t.Helper()
	for peer := range 8 {
		if peer == id {
			openRefuses(t, "itself", n, peer, api.ErrArg)
			continue
		}
		already++
		s := name(id, life, already)
		want, e := frame.First(peer, s, tally.All(n.Map()))
		if e != api.OK {
			t.Fatal(e)
		}
		counts(t, "Open", n, api.Counters{Sent: 1}, func() {
			told, data, e := n.Open(peer)
			if told != s || string(data) != string(bytesOf(t, want)) || e != api.OK {
				t.Fatalf("Open(%d): %v, %x, %d, want %s", peer, told, data, e, brief(want))
			}
		})
		if l := n.Talks(); l[len(l)-1] != (api.Talk{Session: s, Peer: peer}) {
			t.Fatalf("Open(%d): %+v", peer, l)
		}
	}
}

// P17.3: a session says what the node holds when it is opened, also where it is written to between.
func TestOpenSaysWhatIsHeld(t *testing.T) {
	n := made(t, 3, plainConfig())
	for i := range mostTalks {
		f := opened(t, n, 5)
		if f.Session != name(3, 1, i+1) || f.Parts[0].Tally != tally.All(n.Map()) || f.Parts[0].Tally.Count != i {
			t.Fatal(i, brief(f))
		}
		writes(t, n, numbered(i, 1)...)
	}
}

// P17.3: ErrArg of peers that may not be, and of the node itself, in each life; no number is used up.
func TestOpenRefusesPeers(t *testing.T) {
	for id := range 8 {
		n := made(t, id, plainConfig())
		for life := 1; life <= 3; life++ {
			for _, peer := range append(outside(0, 7), id) {
				openRefuses(t, "a peer", n, peer, api.ErrArg)
			}
			if f := opened(t, n, (id+1)%8); f.Session != name(id, life, 1) {
				t.Error(brief(f))
			}
			restart(t, n)
		}
	}
}

// busy is a node of id 3 with 16 sessions, none of which is closed: so many were opened, the others begun by node 5.
func busy(t *testing.T, own int) *node.Node {
	t.Helper()
	n := holding(t, 3, plainConfig(), many(9))
	for i := range mostTalks {
		if i < own {
			opened(t, n, i%3+4)
		} else {
			answered(t, n, first(name(5, 1, i+1), 3, other(whole())))
		}
	}
	return n
}

// P17.3, R2: ErrBusy where there is no room, behind ErrArg and ErrDown; a crash makes room.
func TestOpenRefusesMore(t *testing.T) {
	for _, own := range []int{0, 1, 8, mostTalks} {
		n := busy(t, own)
		openRefuses(t, "no room", n, 5, api.ErrBusy)
		openRefuses(t, "no room, and itself", n, 3, api.ErrArg)
		openRefuses(t, "no room, and no peer", n, 8, api.ErrArg)
		openRefuses(t, "no room, and no peer", n, -1, api.ErrArg)
		n.Crash()
		for _, peer := range append(outside(0, 7), 3, 5) {
			openRefuses(t, "down", n, peer, api.ErrDown)
		}
		n.Start()
		if f := opened(t, n, 5); f.Session != name(3, 3, 1) {
			t.Error(brief(f))
		}
	}
}

// P17.3: room is made by forgetting a closed session, which counts nothing but what is sent.
func TestOpenMakesRoom(t *testing.T) {
	n := made(t, 3, plainConfig())
	for i := range 3 * mostTalks {
		counts(t, "Open", n, api.Counters{Sent: 1}, func() { opened(t, n, 5) })
		counts(t, "closed", n, api.Counters{Heard: 1, Closed: 1}, func() {
			unanswered(t, n, api.Frame{From: 5, To: 3, Session: name(3, 1, i+1), Turn: 1})
		})
		if l := n.Talks(); len(l) != min(i+1, mostTalks) || l[len(l)-1].Session.Number != i+1 {
			t.Fatal(i, l)
		}
	}
}

// P17.3: in a life as many sessions may be opened as there are numbers, then ErrWorn, ahead of ErrBusy and behind ErrArg; the next life begins with the number 1.
func TestOpenIsWorn(t *testing.T) {
	n := made(t, 3, config(2, 1, 1, 0))
	for i := 1; i <= mostLives; i++ {
		if i%mostTalks == 1 {
			n.Tick()
		}
		if s, _, e := n.Open(i % 3); s != name(3, 1, i) || e != api.OK {
			t.Fatal(i, s, e)
		}
	}
	if k := n.Counters(); k != (api.Counters{Sent: mostLives, Lost: mostLives - mostTalks}) {
		t.Errorf("%+v", k)
	}
	openRefuses(t, "worn, and no room", n, 5, api.ErrWorn)
	openRefuses(t, "worn, no room, and itself", n, 3, api.ErrArg)
	tickTells(t, n)
	openRefuses(t, "worn", n, 5, api.ErrWorn)
	openRefuses(t, "worn, and no peer", n, 8, api.ErrArg)
	answered(t, n, first(name(5, 1, 1), 3, other(whole())))
	n.Crash()
	openRefuses(t, "worn, and down", n, 5, api.ErrDown)
	n.Start()
	if f := opened(t, n, 5); f.Session != name(3, 2, 1) {
		t.Error(brief(f))
	}
}
