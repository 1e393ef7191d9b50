package session_test

import (
	"testing"

	"tideline/api"
	"tideline/frame"
	"tideline/session"
)

// The chapter's examples, row by row.
func TestExamples(t *testing.T) {
	s0, s1 := holding(t, 0, nil), holding(t, 1, nil)
	s0.Put("a", "")
	d0, d1 := desk(t, s0, plainConfig()), desk(t, s1, plainConfig())
	openRefuses(t, "itself", d0, s0, 0, api.ErrArg)
	f := opened(t, d0, 1)
	if f.Turn != 0 || f.Session != name(0, 1, 1) {
		t.Fatal(brief(f))
	}
	ticks(t, d0, 2)
	tickTells(t, d0, frames(f))
	ticks(t, d0, 2)
	tickTells(t, d0, nil, name(0, 1, 1))
	isTold(t, "given up", d0, 6)

	g := answered(t, d1, f)
	if g.Turn != 1 || len(g.Parts) != 1 || g.Parts[0].Kind != api.PartItems {
		t.Fatal(brief(g))
	}
	isTold(t, "begun", d1, 0, api.Talk{Session: name(0, 1, 1), Peer: 0, Turn: 1})
	hearRefuses(t, "given up", d0, s0, g, api.ErrStale)

	f2 := opened(t, d0, 1)
	if f2.Session != name(0, 1, 2) {
		t.Fatal(brief(f2))
	}
	g2 := answered(t, d1, f2)
	f3 := answered(t, d0, g2)
	if len(f3.Parts) != 1 || f3.Parts[0].Kind != api.PartReply || len(f3.Parts[0].Entries) != 1 || f3.Parts[0].Entries[0].Key != "a" {
		t.Fatal(brief(f3))
	}
	g3 := answered(t, d1, f3)
	if !frame.Closing(g3) {
		t.Fatal(brief(g3))
	}
	if _, is, _ := heard(t, d0, g3); is {
		t.Fatal("the closing frame was answered")
	}

	ticks(t, d1, 2)
	tickTells(t, d1, frames(g))
	ticks(t, d1, 2)
	tickTells(t, d1, nil, name(0, 1, 1))
	hearRefuses(t, "given up", d1, s1, f, api.ErrStale)
	isTold(t, "the second one", d1, 6, api.Talk{Session: name(0, 1, 2), Peer: 0, Turn: 3, Over: true})
}

// P16.2: with each peer of each node: the frame of turn 0, by the desk's life and by how many were opened, with what the store comes to.
func TestOpen(t *testing.T) {
	for node := range 8 {
		for _, held := range sampleMaps() {
			for _, life := range []int{1, 77, mostLives} {
				s := holding(t, node, held)
				d, _ := session.New(s, plainConfig(), life)
				var told []api.Talk
				for peer := range 8 {
					if peer == node {
						openRefuses(t, "itself", d, s, peer, api.ErrArg)
						continue
					}
					n := name(node, life, len(told)+1)
					want := api.Frame{From: node, To: peer, Session: n, Parts: parts(agreed(t, s))}
					if f := opened(t, d, peer); !frame.Same(f, want) {
						t.Fatalf("%s, want %s", brief(f), brief(want))
					}
					told = append(told, api.Talk{Session: n, Peer: peer})
					isTold(t, "opened", d, 0, told...)
				}
				isAs(t, "seven sessions", s, node, clockOf(held), held)
			}
		}
	}
}

// P16.2: as many as there is room for with one peer; each has its number, and says what the store comes to when it is opened.
func TestOpenTheSamePeer(t *testing.T) {
	s := holding(t, 3, nil)
	d := desk(t, s, plainConfig())
	for i := range mostTalks {
		f := opened(t, d, 5)
		if f.Session != name(3, 1, i+1) || f.Parts[0].Tally.Count != i {
			t.Fatal(i, brief(f))
		}
		s.Put(numbered(i, 1)[0], "")
	}
	if len(d.Talks()) != mostTalks {
		t.Error(d.Talks())
	}
}

// P16.2: what was opened is due at now plus Wait, whenever it was opened.
func TestOpenIsDue(t *testing.T) {
	for _, wait := range []int{1, 2, 3, 50, 99, 100} {
		for _, now := range []int{0, 1, 2, 7, 150} {
			d := desk(t, holding(t, 3, many(3)), config(2, 1, wait, 1))
			ticks(t, d, now)
			f := opened(t, d, 5)
			ticks(t, d, wait-1)
			tickTells(t, d, frames(f))
			isTold(t, "sent again", d, now+wait, api.Talk{Session: f.Session, Peer: 5, Tries: 1})
		}
	}
}

// P16.2: ErrArg of peers that may not be, and of the node itself; the number is not used up by that.
func TestOpenRefusesPeers(t *testing.T) {
	for node := range 8 {
		s := holding(t, node, many(2))
		d := desk(t, s, plainConfig())
		for _, peer := range append(outside(0, 7), node) {
			openRefuses(t, "a peer", d, s, peer, api.ErrArg)
		}
		if f := opened(t, d, (node+1)%8); f.Session.Number != 1 {
			t.Error(brief(f))
		}
	}
}

// P16.2: ErrBusy where 16 sessions are had, none of which is closed, opened here or begun here; ErrArg goes ahead of it; no number is used up.
func TestOpenRefusesMore(t *testing.T) {
	for own := range mostTalks + 1 {
		s := holding(t, 3, many(5))
		d := desk(t, s, plainConfig())
		for i := range mostTalks {
			if i < own {
				opened(t, d, i%3+4)
			} else {
				answered(t, d, first(name(5, 1, i+1), 3, other(whole())))
			}
		}
		for range 3 {
			openRefuses(t, "no room", d, s, 5, api.ErrBusy)
			openRefuses(t, "no room, and itself", d, s, 3, api.ErrArg)
			openRefuses(t, "no room, and no peer", d, s, 8, api.ErrArg)
			openRefuses(t, "no room, and no peer", d, s, -1, api.ErrArg)
		}
		for range 6 {
			d.Tick()
		}
		isTold(t, "all given up", d, 6)
		if f := opened(t, d, 5); f.Session != name(3, 1, own+1) {
			t.Errorf("%d opened: %s", own, brief(f))
		}
	}
}

// P16.2: the last number may be opened, then ErrWorn for good, ahead of ErrBusy and behind ErrArg; frames are heard as before.
func TestLastNumber(t *testing.T) {
	s := holding(t, 3, nil)
	d := desk(t, s, config(2, 1, 1, 0))
	// 16 divides how many may be opened: at the end there is no room either.
	for n := 1; n <= mostLives; n++ {
		if n%mostTalks == 1 {
			if l, lost := d.Tick(); len(l) > 0 || n > 1 && len(lost) != mostTalks {
				t.Fatal(n, len(l), lost)
			}
		}
		if f, e := d.Open(n % 3); f.Session != name(3, 1, n) || f.To != n%3 || e != api.OK {
			t.Fatal(n, brief(f), e)
		}
	}
	openRefuses(t, "worn, and no room", d, s, 5, api.ErrWorn)
	openRefuses(t, "worn, no room, and itself", d, s, 3, api.ErrArg)
	openRefuses(t, "worn, no room, and no peer", d, s, 8, api.ErrArg)
	last := d.Talks()[mostTalks-1]
	if last != (api.Talk{Session: name(3, 1, mostLives), Peer: mostLives % 3}) {
		t.Error(last)
	}
	hearRefuses(t, "no room", d, s, first(name(5, 1, 1), 3, other(whole())), api.ErrBusy)
	d.Tick()
	openRefuses(t, "worn", d, s, 5, api.ErrWorn)
	openRefuses(t, "worn, and itself", d, s, 3, api.ErrArg)
	answered(t, d, first(name(5, 1, 1), 3, other(whole())))
	openRefuses(t, "worn", d, s, 5, api.ErrWorn)
	isTold(t, "begun", d, mostLives/mostTalks+1, api.Talk{Session: name(5, 1, 1), Peer: 5, Turn: 1})
}
