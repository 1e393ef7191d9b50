package node_test

import (
	"testing"

	"tideline/api"
	"tideline/frame"
	"tideline/node"
)

// P17.7: of a session that every frame of comes, each side counts its own frames as Sent, their entries as Moved, the other one's as Heard, what it took, and that it is closed, be it by sending the closing frame or by hearing it.
func TestCountersOfASession(t *testing.T) {
	for _, maps := range mapPairs() {
		for _, c := range sampleConfigs() {
			both := map[int]*node.Node{0: holding(t, 0, c, maps[0]), 7: holding(t, 7, c, maps[1])}
			want := map[int]api.Counters{0: both[0].Counters(), 7: both[7].Counters()}
			for _, f := range handOn(t, opened(t, both[0], 7), both) {
				want[f.From] = plus(want[f.From], api.Counters{Sent: 1, Moved: frame.Entries(f)})
				want[f.To] = plus(want[f.To], api.Counters{Heard: 1})
				if frame.Closing(f) {
					want[f.From] = plus(want[f.From], api.Counters{Closed: 1})
					want[f.To] = plus(want[f.To], api.Counters{Closed: 1})
				}
			}
			for id, n := range both {
				by := want[id]
				by.Taken += news(n.Map(), maps[id/7])
				if k := n.Counters(); k != by {
					t.Fatalf("node %d, %v: %+v, want %+v", id, c, k, by)
				}
			}
		}
	}
}

// news is how many entries of a map an earlier one did not have.
func news(l, earlier []api.Entry) int {
	had := map[api.Entry]bool{}
	for _, x := range earlier {
		had[x] = true
	}
	count := 0
	for _, x := range l {
		if !had[x] {
			count++
		}
	}
	return count
}

// step is a call, or several, and what they count.
type step struct {
	what string
	by   api.Counters
	do   func()
}

// P17.7: call by call, through several lives: what each counts, alone.
func TestCountersCallByCall(t *testing.T) {
	n := made(t, 3, config(2, 32, 2, 1))
	for life := 1; life <= 4; life++ {
		held := life + 1
		begin := first(name(5, 9, 10+life), 3, other(whole()))
		var own api.Frame
		deliver := func(f api.Frame) func() { return func() { n.Deliver(bytesOf(t, f)) } }
		for _, x := range []step{
			{"Put", api.Counters{}, func() { n.Put("a", ""); n.Put(numbered(life, 1)[0], "") }},
			{"Delete", api.Counters{}, func() { n.Delete("a") }},
			{"a wrong Put", api.Counters{}, func() { n.Put(tooLongKey, "") }},
			{"reading", api.Counters{}, func() { n.Get("a"); n.Scan(whole()); n.Fold(whole()); n.Map(); n.Talks() }},
			{"Open", api.Counters{Sent: 1}, func() { own = opened(t, n, 6) }},
			{"a wrong Open", api.Counters{}, func() { n.Open(3) }},
			{"begun", api.Counters{Sent: 1, Heard: 1, Moved: held}, deliver(begin)},
			{"come again", api.Counters{Sent: 1, Again: 1, Heard: 1, Moved: held}, deliver(begin)},
			{"no bytes", api.Counters{Bad: 1}, func() { n.Deliver(nil) }},
			{"a byte more", api.Counters{Bad: 1}, func() { n.Deliver(append(bytesOf(t, begin), 0)) }},
			{"to another node", api.Counters{Stale: 1}, deliver(first(name(5, 99, 1), 4, other(whole())))},
			{"a later turn", api.Counters{Stale: 1}, func() { n.Deliver(bytesOf(t, back(back(back(own))))) }},
			{"a tick", api.Counters{}, func() { n.Tick() }},
			{"a Start", api.Counters{}, func() { n.Start() }},
			{"a tick with both", api.Counters{Sent: 2, Again: 2, Moved: held}, func() { n.Tick() }},
			{"the closing frame is heard", api.Counters{Heard: 1, Closed: 1}, func() { n.Deliver(bytesOf(t, back(own))) }},
			{"it is heard once more", api.Counters{Stale: 1}, func() { n.Deliver(bytesOf(t, back(own))) }},
			{"given up", api.Counters{Lost: 1}, func() { n.Tick(); n.Tick() }},
			{"of what was given up", api.Counters{Stale: 1}, deliver(begin)},
			{"a crash with one that waits", api.Counters{Sent: 1}, func() { opened(t, n, 6); n.Crash() }},
			{"calls while it is down", api.Counters{}, func() { n.Put("a", ""); n.Open(6); n.Deliver(nil); n.Tick(); n.Crash() }},
			{"a frame while it is down", api.Counters{}, deliver(begin)},
			{"a Start of what is down", api.Counters{}, func() { n.Start() }},
		} {
			counts(t, x.what, n, x.by, x.do)
		}
	}
	if k := n.Counters(); k != (api.Counters{Sent: 24, Again: 12, Heard: 12, Stale: 16, Bad: 8, Moved: 42, Closed: 4, Lost: 4}) {
		t.Errorf("%+v", k)
	}
}

// P17.7: a session counts as closed once: when the closing frame is sent, or heard; not where that goes out again, nor where the session is forgotten, nor where it is closed as it is begun.
func TestClosedCountsOnce(t *testing.T) {
	n := holding(t, 3, plainConfig(), many(9))
	again := api.Counters{Sent: 1, Again: 1, Heard: 1}
	at := first(name(5, 1, 1), 3, agreed(n))
	counts(t, "closed as it is begun", n, api.Counters{Sent: 1, Heard: 1, Closed: 1}, func() { answered(t, n, at) })
	counts(t, "again", n, again, func() { answered(t, n, at) })
	f := answered(t, n, first(name(5, 1, 2), 3, other(whole())))
	closed := back(f, agreed(n))
	counts(t, "closed by an answer", n, api.Counters{Sent: 1, Heard: 1, Closed: 1}, func() { answered(t, n, closed) })
	counts(t, "again", n, again, func() { answered(t, n, closed) })
	own := opened(t, n, 6)
	counts(t, "closed by hearing", n, api.Counters{Heard: 1, Closed: 1}, func() { unanswered(t, n, back(own)) })
	counts(t, "ticks", n, api.Counters{}, func() { ticks(t, n, 50) })
	for i := range 2 * mostTalks {
		counts(t, "forgotten for another one", n, api.Counters{Sent: 1, Heard: 1, Closed: 1}, func() {
			answered(t, n, first(name(6, 1, i+1), 3, agreed(n)))
		})
	}
	counts(t, "a crash", n, api.Counters{}, func() { n.Crash() })
}

// P17.7: what a crash takes is neither closed nor lost, also where it would have been given up at the next tick.
func TestCrashCountsNothing(t *testing.T) {
	for _, own := range []int{0, 7, mostTalks} {
		n := busy(t, own)
		counts(t, "waiting, and a crash", n, api.Counters{Sent: mostTalks, Again: mostTalks}, func() {
			for range 5 {
				tick(t, n)
			}
			n.Crash()
			n.Start()
			ticks(t, n, 20)
		})
	}
}

// P17.7: entries that were refused count as Full, each time that they are; a frame that has come again refuses nothing.
func TestFullIsCounted(t *testing.T) {
	n := holding(t, 3, plainConfig(), many(most))
	for i := range 3 {
		f := opened(t, n, 5)
		told := back(f, reply(whole(), at("a"), at("b"), entry(many(1)[0].Key, greatest-9+i, 1, "newer")))
		counts(t, "full", n, api.Counters{Sent: 1, Heard: 1, Taken: 1, Full: 2, Closed: 1}, func() {
			if _, _, h := heard(t, n, told); h != (api.Heard{Taken: 1, Refused: 2}) {
				t.Fatal(h)
			}
		})
		counts(t, "again", n, api.Counters{Sent: 1, Again: 1, Heard: 1}, func() { answered(t, n, told) })
	}
	restart(t, n)
	f := opened(t, n, 5)
	counts(t, "given up", n, api.Counters{Heard: 1, Full: 1, Lost: 1}, func() { unanswered(t, n, back(f, tooMuch()...)) })
}

// P17.7: ErrBusy counts nowhere, neither of Deliver nor of Open.
func TestBusyCountsNowhere(t *testing.T) {
	n := busy(t, 3)
	counts(t, "no room", n, api.Counters{}, func() {
		for range 5 {
			if _, _, e := n.Open(5); e != api.ErrBusy {
				t.Fatal(e)
			}
			if _, _, e := n.Deliver(bytesOf(t, first(name(6, 1, 1), 3, other(whole())))); e != api.ErrBusy {
				t.Fatal(e)
			}
		}
	})
}
