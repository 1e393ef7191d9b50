package world_test

import (
	"math"
	"slices"
	"testing"

	"tideline/api"
	"tideline/frame"
	"tideline/world"
)

// P20.2: frames that one tick sends go out in their order: by rising names, however they were opened and begun.
func TestTickOrder(t *testing.T) {
	w := made(t, 5, plainConfig())
	for _, n := range []int{4, 0, 3, 1} {
		all(t, w, put(n, "k", ""), open(n, 2), deliver(0), drop(0), open(2, n), drop(0))
	}
	for range 2 {
		tells(t, w, tick(2), api.Answer{})
	}
	hasUnder(t, w)
	tells(t, w, tick(2), api.Answer{})
	l := frames(t, w)
	if len(l) != 8 || !slices.IsSortedFunc(l, func(f, g api.Frame) int { return frame.CompareNames(f.Session, g.Session) }) {
		t.Fatal(briefly(l))
	}
	for i, want := range []api.Name{name(0, 1, 1), name(1, 1, 1), name(2, 1, 1), name(2, 1, 2), name(2, 1, 3), name(2, 1, 4), name(3, 1, 1), name(4, 1, 1)} {
		if f := l[i]; f.Session != want || f.From != 2 {
			t.Errorf("%s, want %v", brief(f), want)
		}
	}
	hasNums(t, w, 13, 14, 15, 16, 17, 18, 19, 20)
}

// P20.2: a tick is the one node's: no other node's time goes on, and none without a tick.
func TestTickOfOne(t *testing.T) {
	w := made(t, 3, plainConfig())
	all(t, w, put(0, "a", ""), put(1, "b", ""), open(0, 1), open(1, 0), drop(0), drop(0))
	for range 20 {
		all(t, w, tick(2), mapOf(0), talks(1), bag())
	}
	hasUnder(t, w)
	all(t, w, tick(0), tick(0), tick(1), tick(1))
	hasUnder(t, w)
	all(t, w, tick(1))
	if l := packets(t, w); len(l) != 1 || l[0].From != 1 {
		t.Errorf("%v", l)
	}
}

// P20.2: what a node that is down answers: ErrDown to all that needs it up, and nothing has changed; what it held, to OpMap.
func TestDown(t *testing.T) {
	w := made(t, 3, plainConfig())
	all(t, w, put(1, "a", "x"), remove(1, "b"), open(1, 0), open(2, 1), deliver(1))
	k := counters(t, w, 1)
	tells(t, w, crash(1), api.Answer{})
	for _, o := range at(put(1, "c", ""), remove(1, "a"), get(1, "a"), scan(1, whole()), fold(1, whole()), open(1, 0), raw(1, ""), raw(1, bytesOf(t, first(name(0, 1, 1), 1, other()))), tick(1), crash(1)) {
		refuses(t, w, o, api.ErrDown)
	}
	for _, o := range at(put(1, tooLongKey, tooLongValue), remove(1, tooLongKey), get(1, tooLongKey), scan(1, rng("b", "a")), fold(1, rng("b", "a")), open(1, 1)) {
		refuses(t, w, o, api.ErrDown)
	}
	tells(t, w, mapOf(1), api.Answer{Entries: list(entry("a", 1, 1, "x"), dead("b", 2, 1))})
	tells(t, w, talks(1), api.Answer{})
	tells(t, w, count(1), api.Answer{Counters: k})
	tells(t, w, start(1), api.Answer{})
	refuses(t, w, start(1), api.ErrUp)
	tells(t, w, mapOf(1), api.Answer{Entries: list(entry("a", 1, 1, "x"), dead("b", 2, 1))})
	tells(t, w, talks(1), api.Answer{})
	tells(t, w, count(1), api.Answer{Counters: k})
	tells(t, w, put(1, "c", ""), api.Answer{Version: api.Version{Counter: 3, Node: 1}})
	tells(t, w, open(1, 0), api.Answer{Session: name(1, 2, 1)})
}

// P20.2: a crash is the one node's; the frames that are under way stay.
func TestCrashOfOne(t *testing.T) {
	w := made(t, 4, plainConfig())
	for n := range 4 {
		all(t, w, put(n, "k", ""), open(n, (n+1)%4))
	}
	before := shoot(w)
	all(t, w, crash(2))
	now := shoot(w)
	before.nodes[2] = seen{entries: before.nodes[2].entries, counters: before.nodes[2].counters}
	if !now.is(before) {
		t.Errorf("%s, want %s", quoted(now), quoted(before))
	}
	all(t, w, start(2))
	before.nodes[2].up = true
	if now := shoot(w); !now.is(before) {
		t.Errorf("%s, want %s", quoted(now), quoted(before))
	}
}

// P20.2: commands of crashes and starts, one behind the other: each life has its number.
func TestLives(t *testing.T) {
	w := made(t, 2, plainConfig())
	for life := 1; life < 200; life++ {
		tells(t, w, open(0, 1), api.Answer{Session: name(0, life, 1)})
		tells(t, w, open(0, 1), api.Answer{Session: name(0, life, 2)})
		tells(t, w, open(1, 0), api.Answer{Session: name(1, 1, life)})
		all(t, w, drop(0), drop(0), drop(0), crash(0))
		refuses(t, w, crash(0), api.ErrDown)
		all(t, w, start(0))
		refuses(t, w, start(0), api.ErrUp)
		// Node 1 gives up what it opened: else it would have no room at last.
		for range 6 {
			all(t, w, tick(1))
		}
		for len(packets(t, w)) > 0 {
			all(t, w, drop(0))
		}
	}
}

// P20.2: at the end of its lives, and of a life's sessions, a node answers ErrWorn.
func TestWornLives(t *testing.T) {
	w := made(t, 2, plainConfig())
	all(t, w, put(0, "a", ""))
	for range mostLives - 1 {
		w.Do(crash(0))
		w.Do(start(0))
	}
	tells(t, w, open(0, 1), api.Answer{Session: name(0, mostLives, 1)})
	all(t, w, crash(0))
	refuses(t, w, start(0), api.ErrWorn)
	tells(t, w, mapOf(0), api.Answer{Entries: list(entry("a", 1, 0, ""))})
}

// P20.2: a life's sessions have an end, too.
func TestWornSessions(t *testing.T) {
	w := made(t, 2, config(2, 1, 1, 0))
	for n := 1; n <= mostLives; n++ {
		if a, e := w.Do(open(0, 1)); e != api.OK || a.Session != name(0, 1, n) {
			t.Fatalf("session %d: %v, %d", n, a.Session, e)
		}
		w.Do(drop(0))
		w.Do(tick(0))
	}
	refuses(t, w, open(0, 1), api.ErrWorn)
	refuses(t, w, open(0, 0), api.ErrArg)
	all(t, w, crash(0), start(0))
	tells(t, w, open(0, 1), api.Answer{Session: name(0, 2, 1)})
}

// P20.2: OpTalks tells the sessions in the order in which the node came to have them.
func TestTalks(t *testing.T) {
	w := made(t, 4, plainConfig())
	all(t, w, put(1, "k", ""), open(1, 3), open(1, 0), drop(0), drop(0), open(3, 1), open(0, 1), deliver(1), deliver(0))
	tells(t, w, talks(1), api.Answer{Talks: []api.Talk{
		{Session: name(1, 1, 1), Peer: 3}, {Session: name(1, 1, 2), Peer: 0},
		{Session: name(0, 1, 1), Peer: 0, Turn: 1}, {Session: name(3, 1, 1), Peer: 3, Turn: 1},
	}})
	calm(t, w)
	for range 3 {
		all(t, w, tick(1))
	}
	l := do(t, w, talks(1)).Talks
	if len(l) != 4 || l[0].Tries != 1 || l[1].Tries != 1 || !l[2].Over || !l[3].Over {
		t.Errorf("%+v", l)
	}
}

// P20.2: no room for a session more: ErrBusy; a closed one makes room.
func TestBusy(t *testing.T) {
	w := made(t, 2, plainConfig())
	all(t, w, put(0, "a", ""))
	for range mostTalks {
		all(t, w, open(0, 1))
	}
	refuses(t, w, open(0, 1), api.ErrBusy)
	refuses(t, w, open(0, 0), api.ErrArg)
	refuses(t, w, open(0, 2), api.ErrNone)
	refuses(t, w, raw(0, bytesOf(t, first(name(7, 1, 1), 0, other()))), api.ErrBusy)
	calm(t, w)
	if l := do(t, w, talks(1)).Talks; len(l) != mostTalks || !l[0].Over {
		t.Errorf("%v", l)
	}
	tells(t, w, open(0, 1), api.Answer{Session: name(0, 1, mostTalks+1)})
	if l := do(t, w, talks(0)).Talks; len(l) != mostTalks || l[0].Session.Number != 2 {
		t.Errorf("%v", l)
	}
}

// P20.5: Map tells what OpMap does, of nodes that are up and down; of such as there are none nothing.
func TestMap(t *testing.T) {
	for nodes := 2; nodes <= mostNodes; nodes++ {
		w := made(t, nodes, plainConfig())
		for n := range nodes {
			all(t, w, put(n, "a", "x"), remove(n, "b"), put(n, "", ""))
			want := list(entry("", 3, n, ""), entry("a", 1, n, "x"), dead("b", 2, n))
			isMap(t, w, n, want)
			all(t, w, crash(n))
			isMap(t, w, n, want)
			all(t, w, start(n))
			isMap(t, w, n, want)
		}
		for _, n := range append(outside(0, nodes-1), -1, nodes, math.MaxInt, math.MinInt) {
			if l := w.Map(n); len(l) != 0 {
				t.Errorf("%d nodes: Map(%d): %s", nodes, n, quoted(l))
			}
		}
	}
}

// isMap asks that Map and OpMap tell just these entries.
func isMap(t *testing.T, w *world.World, n int, want []api.Entry) {
	t.Helper()
	if l := w.Map(n); !slices.Equal(l, want) {
		t.Fatalf("Map(%d): %s, want %s", n, quoted(l), quoted(want))
	}
	tells(t, w, mapOf(n), api.Answer{Entries: want})
}

// P20.5: maps of none and of as many entries as a node holds.
func TestMapSizes(t *testing.T) {
	for _, l := range [][]api.Entry{nil, under(oddKeys()), many(most - 1), many(most)} {
		w := fed(t, plainConfig(), l, nil)
		isMap(t, w, 0, l)
		all(t, w, crash(0))
		isMap(t, w, 0, l)
		isMap(t, w, 1, nil)
	}
}

// P20.2: OpCount tells what was counted through all lives.
func TestCount(t *testing.T) {
	w := made(t, 2, plainConfig())
	all(t, w, put(0, "a", "x"))
	meet(t, w, 0, 1)
	errs(t, w, raw(0, "x"), api.ErrFrame)
	all(t, w, crash(0), start(0), open(0, 1), drop(0))
	for range 6 {
		all(t, w, tick(0))
	}
	errs(t, w, raw(0, bytesOf(t, back(first(name(0, 2, 1), 1, other())))), api.ErrStale)
	tells(t, w, count(0), api.Answer{Counters: api.Counters{Sent: 4, Again: 1, Heard: 2, Stale: 1, Bad: 1, Moved: 1, Closed: 1, Lost: 1}})
	tells(t, w, count(1), api.Answer{Counters: api.Counters{Sent: 2, Heard: 2, Taken: 1, Closed: 1}})
	tells(t, w, count(1), api.Answer{Counters: api.Counters{Sent: 2, Heard: 2, Taken: 1, Closed: 1}})
}
