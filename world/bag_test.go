package world_test

import (
	"slices"
	"testing"

	"tideline/api"
	"tideline/frame"
	"tideline/world"
)

// P20.2: the chapter's rows of sessions and frames.
func TestBagExamples(t *testing.T) {
	w := made(t, 2, plainConfig())
	all(t, w, put(0, "a", "x"))
	tells(t, w, open(0, 1), api.Answer{Session: name(0, 1, 1)})
	l := packets(t, w)
	want := bytesOf(t, first(name(0, 1, 1), 1, agreed(w, 0)))
	if len(l) != 1 || l[0].Num != 1 || l[0].From != 0 || l[0].To != 1 || string(l[0].Data) != want {
		t.Fatalf("%v, want %x", l, want)
	}
	refuses(t, w, deliver(1), api.ErrNone)
	if n, e := w.Calm(9); n != 4 || e != api.OK {
		t.Errorf("Calm: %d, %d", n, e)
	}
	tells(t, w, mapOf(1), api.Answer{Entries: list(entry("a", 1, 0, "x"))})
	tells(t, w, bag(), api.Answer{})
	errs(t, w, raw(1, ""), api.ErrFrame)
	refuses(t, w, open(0, 2), api.ErrNone)
	refuses(t, w, open(0, 0), api.ErrArg)
	tells(t, w, open(0, 1), api.Answer{Session: name(0, 1, 2)})
	tells(t, w, crash(1), api.Answer{})
	errs(t, w, deliver(0), api.ErrDown)
	tells(t, w, bag(), api.Answer{})
}

// P20.2: the frames of a session, one by one: each goes out from the node whose it is to that of its To, behind all others.
func TestFramesGoOut(t *testing.T) {
	w := made(t, 3, plainConfig())
	all(t, w, put(2, "a", "x"), put(1, "b", ""), put(1, "c", ""))
	s := do(t, w, open(2, 1)).Session
	turn0 := first(s, 1, agreed(w, 2))
	hasUnder(t, w, turn0)
	tells(t, w, deliver(0), api.Answer{})
	turn1 := frames(t, w)[0]
	if turn1.Turn != 1 || turn1.From != 1 || turn1.To != 2 || len(turn1.Parts) != 2 {
		t.Fatal(brief(turn1))
	}
	hasUnder(t, w, turn1)
	tells(t, w, deliver(0), api.Answer{})
	turn2 := frames(t, w)[0]
	if turn2.Turn != 2 || len(turn2.Parts) != 2 || len(turn2.Parts[0].Entries) != 1 {
		t.Fatal(brief(turn2))
	}
	tells(t, w, deliver(0), api.Answer{Heard: api.Heard{Taken: 1}})
	turn3 := frames(t, w)[0]
	if turn3.Turn != 3 || frame.Entries(turn3) != 2 {
		t.Fatal(brief(turn3))
	}
	tells(t, w, deliver(0), api.Answer{Heard: api.Heard{Taken: 2}})
	hasUnder(t, w, back(turn3))
	tells(t, w, deliver(0), api.Answer{})
	hasUnder(t, w)
	for n := range 3 {
		want := held(w, 2)
		if n == 0 {
			want = nil
		}
		if l := held(w, n); !slices.Equal(l, want) {
			t.Errorf("node %d: %q", n, l)
		}
	}
	if k, want := counters(t, w, 2), (api.Counters{Sent: 3, Heard: 2, Moved: 1, Taken: 2, Closed: 1}); k != want {
		t.Errorf("%+v, want %+v", k, want)
	}
	if k, want := counters(t, w, 1), (api.Counters{Sent: 2, Heard: 3, Moved: 2, Taken: 1, Closed: 1}); k != want {
		t.Errorf("%+v, want %+v", k, want)
	}
}

// opens has n sessions of their own opened, each by the next node with the one behind it: their frames are 0 to n - 1.
func opens(t *testing.T, w *world.World, n int) {
	t.Helper()
	for i := range n {
		all(t, w, open(i%w.Nodes(), (i+1)%w.Nodes()))
	}
}

func nums(l []api.Packet) []int {
	var all []int
	for _, p := range l {
		all = append(all, p.Num)
	}
	return all
}

// hasNums asks that just the packets of these numbers are in the bag.
func hasNums(t *testing.T, w *world.World, want ...int) {
	t.Helper()
	if l := nums(packets(t, w)); !slices.Equal(l, want) {
		t.Fatalf("%v, want %v", l, want)
	}
}

// P20.2: frames are dropped, doubled and delivered by their places: the first, the last, those between.
func TestPlaces(t *testing.T) {
	w := made(t, 4, plainConfig())
	opens(t, w, 6)
	hasNums(t, w, 1, 2, 3, 4, 5, 6)
	tells(t, w, drop(2), api.Answer{})
	hasNums(t, w, 1, 2, 4, 5, 6)
	tells(t, w, double(1), api.Answer{})
	hasNums(t, w, 1, 2, 4, 5, 6, 7)
	tells(t, w, drop(5), api.Answer{})
	tells(t, w, drop(0), api.Answer{})
	hasNums(t, w, 2, 4, 5, 6)
	tells(t, w, double(3), api.Answer{})
	tells(t, w, double(0), api.Answer{})
	hasNums(t, w, 2, 4, 5, 6, 8, 9)
	l := packets(t, w)
	for _, x := range [][2]int{{3, 4}, {0, 5}} {
		one, twin := l[x[0]], l[x[1]]
		one.Num = twin.Num
		if !samePackets(one, twin) {
			t.Errorf("%v and %v", one, twin)
		}
	}
	tells(t, w, deliver(2), api.Answer{})
	hasNums(t, w, 2, 4, 6, 8, 9, 10)
	if p := packets(t, w)[5]; p.From != l[2].To || p.To != l[2].From {
		t.Errorf("%v was answered by %v", l[2], p)
	}
	tells(t, w, deliver(5), api.Answer{})
	tells(t, w, deliver(0), api.Answer{})
	hasNums(t, w, 4, 6, 8, 9, 11)
}

// P20.2: places at which there is no frame: ErrNone, and nothing is another one.
func TestNoPlaces(t *testing.T) {
	w := made(t, 3, plainConfig())
	for frames := range 4 {
		for _, o := range at(deliver(0), drop(0), double(0)) {
			for _, i := range outside(0, frames-1) {
				o.N = i
				refuses(t, w, o, api.ErrNone)
			}
		}
		opens(t, w, 1)
	}
}

// P20.2: frames come in any order.
func TestOvertaken(t *testing.T) {
	w := made(t, 4, plainConfig())
	for n := range 4 {
		all(t, w, put(n, "k"+string(rune('a'+n)), ""))
	}
	opens(t, w, 4)
	for i := 0; len(packets(t, w)) > 0; i++ {
		all(t, w, deliver(i*5%len(packets(t, w))))
	}
	for n := range 4 {
		if k := counters(t, w, n); k.Closed != 2 || k.Stale != 0 {
			t.Errorf("node %d: %+v", n, k)
		}
	}
}

// P20.2: a frame that is refused is in the bag no more: a stale one, one for a node that is down, one for which there is no room.
func TestDeliverErrors(t *testing.T) {
	w := made(t, 2, plainConfig())
	all(t, w, put(0, "a", ""), open(0, 1), double(0))
	for range 4 {
		all(t, w, tick(0))
	}
	hasNums(t, w, 1, 2, 3)
	all(t, w, tick(0), tick(0))
	tells(t, w, talks(0), api.Answer{})
	all(t, w, crash(1))
	errs(t, w, deliver(1), api.ErrDown)
	hasNums(t, w, 1, 3)
	if k := counters(t, w, 1); k != (api.Counters{}) {
		t.Errorf("%+v", k)
	}
	all(t, w, start(1), deliver(0))
	hasNums(t, w, 3, 4)
	errs(t, w, deliver(1), api.ErrStale)
	hasNums(t, w, 3)
	for n := range mostTalks - 1 {
		all(t, w, raw(1, bytesOf(t, first(name(5, 1, n+1), 1, other()))))
	}
	if l := do(t, w, talks(1)).Talks; len(l) != mostTalks {
		t.Fatalf("%d sessions", len(l))
	}
	all(t, w, open(0, 1))
	before := look(w, 1)
	errs(t, w, deliver(1), api.ErrBusy)
	if now := look(w, 1); !now.is(before) {
		t.Errorf("%s, want %s", quoted(now), quoted(before))
	}
	hasNums(t, w, 3)
	all(t, w, deliver(0))
	hasNums(t, w, 6)
}

// P20.2: a bag that is full: what goes out is lost, and nothing else is another one: of OpOpen, OpRaw, OpTick, OpDouble; a frame that is delivered makes room for its answer.
func TestFullBag(t *testing.T) {
	w := made(t, 3, plainConfig())
	all(t, w, open(0, 1))
	fill(t, w, room)
	before := packets(t, w)
	tells(t, w, open(0, 2), api.Answer{Session: name(0, 1, 2)})
	tells(t, w, double(7), api.Answer{})
	tells(t, w, raw(2, bytesOf(t, first(name(1, 1, 1), 2, other()))), api.Answer{})
	for range 3 {
		tells(t, w, tick(0), api.Answer{})
	}
	if l := packets(t, w); !slices.EqualFunc(l, before, samePackets) {
		t.Fatalf("%d frames, the last one %v", len(l), l[len(l)-1])
	}
	if k := counters(t, w, 0); k != (api.Counters{Sent: 4, Again: 2}) {
		t.Errorf("%+v", k)
	}
	if l := do(t, w, talks(0)).Talks; len(l) != 2 || l[0].Tries != 1 || l[1].Tries != 1 {
		t.Errorf("%v", l)
	}
	if l := do(t, w, talks(2)).Talks; len(l) != 1 {
		t.Errorf("%v", l)
	}
	tells(t, w, deliver(room-1), api.Answer{})
	l := packets(t, w)
	if n := len(l); n != room || l[n-1].Num != room+1 || l[n-1].From != 1 {
		t.Errorf("%d frames, the last one %v", n, l[n-1])
	}
}

// P20.2: with room for less than goes out by one tick, the first of these frames are sent, and the others lost.
func TestNearlyFullBag(t *testing.T) {
	w := made(t, 4, plainConfig())
	all(t, w, open(0, 3), open(0, 2), open(0, 1))
	fill(t, w, room-2)
	for range 3 {
		all(t, w, tick(0))
	}
	l := packets(t, w)
	if len(l) != room || l[room-2].To != 3 || l[room-1].To != 2 {
		t.Errorf("%d frames, the last ones %v", len(l), l[len(l)-2:])
	}
}

// P20.2: a frame whose To is no node of the world is lost; that it went out is counted all the same.
func TestNoSuchPeer(t *testing.T) {
	for nodes := 2; nodes < mostNodes; nodes++ {
		w := made(t, nodes, plainConfig())
		for stranger := nodes; stranger < mostNodes; stranger++ {
			s := name(stranger, 1, 1)
			tells(t, w, raw(1, bytesOf(t, first(s, 1, other()))), api.Answer{})
			hasUnder(t, w)
			if x, is := talk(t, w, 1, s); !is || x.Peer != stranger || x.Turn != 1 {
				t.Errorf("%d nodes: %v", nodes, x)
			}
		}
		strangers := mostNodes - nodes
		if k := counters(t, w, 1); k != (api.Counters{Sent: strangers, Heard: strangers}) {
			t.Errorf("%d nodes: %+v", nodes, k)
		}
		for range 3 {
			tells(t, w, tick(1), api.Answer{})
		}
		hasUnder(t, w)
		if k := counters(t, w, 1); k != (api.Counters{Sent: 2 * strangers, Again: strangers, Heard: strangers}) {
			t.Errorf("%d nodes: %+v", nodes, k)
		}
	}
}

// P20.2: of the frames of one tick those are lost that are for no node of the world, the others go out in their order.
func TestTickWithStrangers(t *testing.T) {
	w := made(t, 4, plainConfig())
	all(t, w, raw(1, bytesOf(t, first(name(6, 1, 1), 1, other()))), open(1, 3), raw(1, bytesOf(t, first(name(0, 1, 1), 1, other()))), open(1, 2), raw(1, bytesOf(t, first(name(4, 1, 1), 1, other()))))
	for len(packets(t, w)) > 0 {
		all(t, w, drop(0))
	}
	for range 3 {
		all(t, w, tick(1))
	}
	l := frames(t, w)
	if len(l) != 3 || l[0].Session != name(0, 1, 1) || l[1].Session != name(1, 1, 1) || l[2].Session != name(1, 1, 2) {
		t.Errorf("%s", briefly(l))
	}
}

// P20.2: OpRaw: whatever bytes come, also such as were taken from the bag, which stay there.
func TestRaw(t *testing.T) {
	w := made(t, 3, plainConfig())
	all(t, w, put(0, "a", "x"))
	for i, data := range []string{"", "\x00", longKey, string(make([]byte, 65536)), string(make([]byte, 65537))} {
		errs(t, w, raw(1, data), api.ErrFrame)
		if k := counters(t, w, 1); k != (api.Counters{Bad: i + 1}) {
			t.Errorf("%+v", k)
		}
	}
	all(t, w, open(0, 1))
	data := string(packets(t, w)[0].Data)
	errs(t, w, raw(2, data), api.ErrStale)
	tells(t, w, raw(1, data), api.Answer{})
	hasNums(t, w, 1, 2)
	tells(t, w, raw(1, data), api.Answer{})
	hasNums(t, w, 1, 2, 3)
	tells(t, w, deliver(1), api.Answer{})
	hasNums(t, w, 1, 3, 4)
	reply := string(packets(t, w)[2].Data)
	tells(t, w, raw(1, reply), api.Answer{Heard: api.Heard{Taken: 1}})
	tells(t, w, raw(1, reply), api.Answer{})
	errs(t, w, raw(1, data), api.ErrStale)
	tells(t, w, mapOf(1), api.Answer{Entries: w.Map(0)})
	closing := string(packets(t, w)[3].Data)
	tells(t, w, raw(0, closing), api.Answer{})
	errs(t, w, raw(0, closing), api.ErrStale)
	hasNums(t, w, 1, 3, 4, 5, 6)
	all(t, w, crash(2))
	errs(t, w, raw(2, data), api.ErrDown)
	errs(t, w, raw(2, ""), api.ErrDown)
}

// P20.2: OpRaw tells what was taken, and what was refused.
func TestRawHeard(t *testing.T) {
	w := fed(t, plainConfig(), many(most-1), nil)
	s := name(1, 1, 7)
	data := bytesOf(t, api.Frame{From: 1, To: 0, Session: s, Turn: 2, Parts: said(reply(entry("a", 1, 1, ""), entry("b", 1, 1, ""), entry("c", 1, 1, "")))})
	all(t, w, raw(0, bytesOf(t, first(s, 0, other()))))
	tells(t, w, raw(0, data), api.Answer{Heard: api.Heard{Taken: 1, Refused: 2}})
	if l := w.Map(0); len(l) != most || l[0].Key != "a" {
		t.Errorf("%d entries, %s first", len(l), quoted(l[0]))
	}
}

// P20.2: what OpBag tells is what is in the bag, whatever it was asked before.
func TestBagIsAsked(t *testing.T) {
	w := made(t, 2, plainConfig())
	for n := range 20 {
		if l := packets(t, w); len(l) != n || n > 0 && l[n-1].Num != n {
			t.Fatalf("%d frames, want %d", len(l), n)
		}
		if n == 0 {
			all(t, w, open(0, 1))
		} else {
			all(t, w, double(n-1))
		}
	}
}

// P20.2: the frames of OpOpen and of sessions that go on are in the bag in the order in which they went out.
func TestOrderOfFrames(t *testing.T) {
	w := made(t, 3, plainConfig())
	all(t, w, put(0, "a", ""), open(0, 1), open(2, 0), open(1, 2), open(0, 2))
	var ends [][2]int
	for _, p := range packets(t, w) {
		ends = append(ends, [2]int{p.From, p.To})
	}
	if want := [][2]int{{0, 1}, {2, 0}, {1, 2}, {0, 2}}; !slices.Equal(ends, want) {
		t.Errorf("%v, want %v", ends, want)
	}
	all(t, w, deliver(1), deliver(0))
	hasNums(t, w, 3, 4, 5, 6)
	l := packets(t, w)
	if l[2].From != 0 || l[2].To != 2 || l[3].From != 1 || l[3].To != 0 {
		t.Errorf("%v", l)
	}
}
