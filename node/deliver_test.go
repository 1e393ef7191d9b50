package node_test

import (
	"slices"
	"testing"

	"tideline/api"
	"tideline/frame"
	"tideline/merge"
	"tideline/node"
)

// mapPairs are maps of two nodes that are alike, that differ in one key (held by one alone, or with another version), in many, and in all.
func mapPairs() [][2][]api.Entry {
	l := many(100)
	one := slices.Clone(l)
	one[40] = entry(l[40].Key, 9000, 5, "newer")
	some := slices.Clone(l)
	for i := range some {
		if i%3 == 0 {
			some[i] = dead(l[i].Key, 5000-i, 4)
		}
	}
	return [][2][]api.Entry{
		{nil, nil}, {l, l}, {many(most), many(most)},
		{l, l[1:]}, {l[:99], l}, {l, slices.Concat(l[:50], l[51:])}, {one, l}, {l, one},
		{l, some}, {some, one}, {under(oddKeys(), 0), under(oddKeys(), 9)}, {l, nil}, {nil, many(most)},
		{under(numbered(0, most/2), 0), under(numbered(most/2, most/2), 0)},
	}
}

// P17.4, W5: sessions of all maps, frame by frame: each Deliver says what the second reading says; behind them both maps are the newest of both.
func TestDeliver(t *testing.T) {
	for _, maps := range mapPairs() {
		newest, e := merge.Max(maps[0], maps[1])
		if e != api.OK {
			t.Fatal(e)
		}
		for _, c := range sampleConfigs() {
			p, q := fedPair(t, 0, c, maps[0]), fedPair(t, 7, c, maps[1])
			data, _ := p.open(t, 7)
			for to, from := q, p; len(data) > 0; to, from = from, to {
				if data, _, e = to.deliver(t, data); e != api.OK {
					t.Fatal(e)
				}
			}
			for _, x := range []pair{p, q} {
				if l := x.n.Talks(); len(l) != 1 || !l[0].Over || l[0].Session != name(0, 2, 1) {
					t.Fatalf("%+v", l)
				}
				if held := x.n.Map(); !slices.Equal(held, newest) {
					t.Fatalf("%s, want %s", quoted(held), quoted(newest))
				}
			}
		}
	}
}

// P17.4: what a Deliver tells was Heard: what was taken, and what was refused, of all parts of a frame; older entries are neither.
func TestHeardIsTold(t *testing.T) {
	held := many(most - 2)
	for _, n := range lives(t, 3, plainConfig(), most-2) {
		f := opened(t, n, 5)
		l := parts(
			items(rng("a", "b"), at("a"), at("aa"), at("ab")),
			reply(from("b"), entry(held[0].Key, greatest-1, 6, "newer"), entry(held[1].Key, 1, 0, "older"), at("z")),
		)
		by := api.Counters{Sent: 1, Heard: 1, Taken: 3, Full: 2, Closed: 1}
		counts(t, "parts of two kinds", n, by, func() {
			answer, is, h := heard(t, n, back(f, l...))
			if !is || !frame.Closing(answer) || h != (api.Heard{Taken: 3, Refused: 2}) {
				t.Fatal(brief(answer), h)
			}
		})
		want := append(list(at("a"), at("aa"), entry(held[0].Key, greatest-1, 6, "newer")), held[1:]...)
		if !slices.Equal(n.Map(), want) {
			t.Fatal(quoted(n.Map()))
		}
		// What has come again is not taken again.
		counts(t, "again", n, api.Counters{Sent: 1, Again: 1, Heard: 1}, func() {
			if _, _, h := heard(t, n, back(f, l...)); h != (api.Heard{}) {
				t.Fatal(h)
			}
		})
	}
}

// P17.4: a frame that has come again is answered by the very bytes once more, whatever its parts say, whether the session is over or not, and nothing else is changed but counters; all earlier ones, and later ones, are stale.
func TestAgainAndLate(t *testing.T) {
	for _, maps := range mapPairs()[7:10] {
		n0, n1 := holding(t, 0, plainConfig(), maps[0]), holding(t, 7, plainConfig(), maps[1])
		both := map[int]*node.Node{0: n0, 7: n1}
		all := []api.Frame{opened(t, n0, 7)}
		for !frame.Closing(all[len(all)-1]) {
			f := all[len(all)-1]
			all = append(all, answered(t, both[f.To], f))
			for i, g := range all {
				atEnd := len(all) - i
				switch atEnd {
				case 1:
					// Nobody has heard it yet.
				case 2, 3:
					// What answers it is the last frame that its node sent.
					comesAgain(t, both[g.To], g, all[i+1])
				default:
					refuses(t, "late", both[g.To], g, api.ErrStale)
				}
			}
			later := back(back(back(f)))
			refuses(t, "a turn that is not there yet", both[later.To], later, api.ErrStale)
		}
		last := all[len(all)-1]
		unanswered(t, both[last.To], last)
		comesAgain(t, both[last.From], all[len(all)-2], last)
		comesAgain(t, both[last.To], all[len(all)-3], all[len(all)-2])
		refuses(t, "the closing frame once more", both[last.To], last, api.ErrStale)
		refuses(t, "behind the closing frame", both[last.From], back(last, other(whole())), api.ErrStale)
	}
}

// comesAgain hands the node a frame that it heard, as it was, and with other parts.
func comesAgain(t *testing.T, n *node.Node, f, answer api.Frame) {
	t.Helper()
	by := api.Counters{Sent: 1, Again: 1, Heard: 1, Moved: frame.Entries(answer)}
	another := f
	if f.Turn > 0 {
		another.Parts = parts(reply(whole(), entry("new", greatest, 6, "")))
	} else {
		another.Parts = parts(other(whole()))
	}
	for _, g := range []api.Frame{f, another} {
		changes(t, "come again", n, by, func() {
			if again, is, h := heard(t, n, g); !is || h != (api.Heard{}) || !frame.Same(again, answer) {
				t.Fatalf("%s: %s, want %s", brief(g), brief(again), brief(answer))
			}
		})
	}
}

// P17.4: frames to another node are stale, also those of sessions that the node has, opened here and begun here.
func TestToAnotherNode(t *testing.T) {
	for id := range 8 {
		n := holding(t, id, plainConfig(), many(9))
		own, begun := opened(t, n, (id+1)%8), answered(t, n, first(name((id+2)%8, 1, 1), id, other(whole())))
		for to := range 8 {
			for _, f := range []api.Frame{
				first(name((id+1)%8, 5, 5), to, other(whole())),
				{From: (id + 1) % 8, To: to, Session: own.Session, Turn: 1},
				{From: (id + 2) % 8, To: to, Session: begun.Session, Turn: 2},
			} {
				if to != id && frame.Check(f) == api.OK {
					refuses(t, "to another node", n, f, api.ErrStale)
				}
			}
		}
		for peer := range 8 {
			f := api.Frame{From: peer, To: id, Session: own.Session, Turn: 1}
			if peer != own.To && frame.Check(f) == api.OK {
				refuses(t, "from another node", n, f, api.ErrStale)
			}
		}
	}
}

// P17.4: frames of sessions that the node has not, and never had: only those of turn 0 begin one.
func TestOfNoSession(t *testing.T) {
	n := holding(t, 3, plainConfig(), many(9))
	for turn := 1; turn <= lastTurn; turn++ {
		f := api.Frame{From: 5, To: 3, Session: name(5, 1, 1), Turn: turn}
		if turn%2 == 1 {
			f.Session = name(3, n.Life(), 1)
		}
		refuses(t, "of no session", n, f, api.ErrStale)
	}
	// No node tells itself that it opened a session.
	for _, s := range []api.Name{name(3, 1, 1), name(3, 2, 1), name(3, 3, 1)} {
		refuses(t, "its own, never opened", n, api.Frame{From: 5, To: 3, Session: s, Turn: 1}, api.ErrStale)
	}
	answered(t, n, first(name(5, 1, 1), 3, other(whole())))
}

// P17.4, R2: ErrBusy of what would begin a session, where there is no room; of what is stale ErrStale, of what is no frame ErrFrame, of all of them ErrDown ahead of that.
func TestDeliverBusy(t *testing.T) {
	n := busy(t, 5)
	begin := first(name(6, 1, 1), 3, other(whole()))
	wrong := []struct {
		what string
		b    []byte
		e    api.Errno
	}{
		{"no room", bytesOf(t, begin), api.ErrBusy},
		{"no room, to be closed at once", bytesOf(t, first(name(6, 1, 1), 3, agreed(n))), api.ErrBusy},
		{"no room, and to another node", bytesOf(t, first(name(6, 1, 1), 4, other(whole()))), api.ErrStale},
		{"no room, and a later turn", bytesOf(t, api.Frame{From: 6, To: 3, Session: name(6, 1, 1), Turn: 2}), api.ErrStale},
		{"no room, and no frame", bytesOf(t, begin)[1:], api.ErrFrame},
		{"no bytes", nil, api.ErrFrame},
	}
	for _, x := range wrong {
		refusesBytes(t, x.what, n, x.b, x.e)
	}
	// Those of sessions that the node has are heard as ever; behind one that closes there is room.
	closing := api.Frame{From: 4, To: 3, Session: n.Talks()[0].Session, Turn: 1}
	unanswered(t, n, closing)
	counts(t, "room was made", n, api.Counters{Sent: 1, Heard: 1}, func() { answered(t, n, begin) })
	refuses(t, "forgotten", n, closing, api.ErrStale)
	n.Crash()
	for _, x := range wrong {
		refusesBytes(t, x.what+", and down", n, x.b, api.ErrDown)
	}
}

// P17.4: a session whose answer would be too great is given up: nothing goes out, what was taken stays, and is told, and its frames are stale from then on.
func TestAnswerTooGreat(t *testing.T) {
	for _, n := range lives(t, 3, plainConfig(), 9) {
		own, begun := opened(t, n, 5), answered(t, n, first(name(5, 1, 1), 3, other(whole())))
		for i, f := range []api.Frame{back(own, tooMuch()...), back(begun, tooMuch()...)} {
			counts(t, "too great", n, api.Counters{Heard: 1, Taken: 1 - i, Lost: 1}, func() {
				if h := unanswered(t, n, f); h != (api.Heard{Taken: 1 - i}) {
					t.Fatal(i, h)
				}
			})
			refuses(t, "given up", n, f, api.ErrStale)
		}
		refuses(t, "given up", n, first(begun.Session, 3, other(whole())), api.ErrStale)
		if x, found, e := n.Get("z"); x != at("z") || !found || e != api.OK {
			t.Fatal(x, found, e)
		}
	}
}

// P17.4: to the last turn of all there is no answer: what is told by it is taken, and the session is given up, but where it is the closing frame.
func TestLastTurn(t *testing.T) {
	for _, n := range lives(t, 3, plainConfig(), 9) {
		f := upTo(t, n, opened(t, n, 5), lastTurn-1)
		counts(t, "the last turn", n, api.Counters{Heard: 1, Taken: 2, Lost: 1}, func() {
			if h := unanswered(t, n, back(f, items(whole(), at("a"), at("b")))); h != (api.Heard{Taken: 2}) {
				t.Fatal(h)
			}
		})
		refuses(t, "given up", n, back(f), api.ErrStale)
		f = upTo(t, n, opened(t, n, 5), lastTurn-1)
		counts(t, "the closing frame", n, api.Counters{Heard: 1, Closed: 1}, func() { unanswered(t, n, back(f)) })
	}
}

// P17.4: several sessions at one time, whose frames come by turns: each goes on for itself, on one map.
func TestSeveralSessions(t *testing.T) {
	for _, c := range sampleConfigs() {
		p := fedPair(t, 3, c, many(60))
		var next []api.Frame
		for i := range mostTalks {
			if i%2 == 0 {
				data, _ := p.open(t, 5)
				next = append(next, frameOf(t, data))
				continue
			}
			data, _, _ := p.deliver(t, bytesOf(t, first(name(5, 2, i), 3, other(whole()))))
			next = append(next, frameOf(t, data))
		}
		for turn := range 5 {
			for i, f := range next {
				key := numbered(200+i, 1)[0]
				told := parts(other(rng("", key)), reply(rng(key, key+"\x00"), entry(key, turn+1, 5, "")))
				if data, h, e := p.deliver(t, bytesOf(t, back(f, told...))); e != api.OK || h.Taken != 1 {
					t.Fatal(h, e)
				} else {
					next[i] = frameOf(t, data)
				}
			}
		}
		p.settled(t)
	}
}
