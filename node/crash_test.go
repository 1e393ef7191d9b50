package node_test

import (
	"math"
	"slices"
	"testing"

	"tideline/api"
	"tideline/merge"
	"tideline/node"
)

// crashes has the node crash: its map, the number of its life, its counters and its Joins stay, its sessions go.
func crashes(t *testing.T, n *node.Node) {
	t.Helper()
	want := shoot(n)
	want.up, want.talks = false, nil
	if e := n.Crash(); e != api.OK {
		t.Fatal(e)
	}
	if now := shoot(n); !now.is(want) {
		t.Fatalf("Crash: %s, want %s", quoted(now), quoted(want))
	}
}

// starts has it start: it is up in the next life, without a session, with the map that it had.
func starts(t *testing.T, n *node.Node) {
	t.Helper()
	want := shoot(n)
	want.up, want.life = true, want.life+1
	if e := n.Start(); e != api.OK {
		t.Fatal(e)
	}
	want.joins = n.Joins()
	if now := shoot(n); !now.is(want) {
		t.Fatalf("Start: %s, want %s", quoted(now), quoted(want))
	}
}

// startRefuses asks that it is not started, and is as it was.
func startRefuses(t *testing.T, n *node.Node, want api.Errno) {
	t.Helper()
	changes(t, "Start", n, api.Counters{}, func() {
		if e := n.Start(); e != want {
			t.Fatalf("Start: %d, want %d", e, want)
		}
	})
}

// P17.5: behind Crash and Start the map is what it was, of no entry, one, many, dead ones too; sessions of all sorts are gone, counters stay.
func TestCrashAndStart(t *testing.T) {
	for id, l := range sampleMaps() {
		n := made(t, id, plainConfig())
		feed(t, n, l)
		for range 4 {
			opened(t, n, (id+1)%8)
			answered(t, n, first(name((id+2)%8, 1, 1), id, other(whole())))
			answered(t, n, first(name((id+3)%8, 1, 1), id, agreed(n)))
			tick(t, n)
			startRefuses(t, n, api.ErrUp)
			crashes(t, n)
			starts(t, n)
			if !slices.Equal(n.Map(), l) {
				t.Fatal(quoted(n.Map()))
			}
		}
	}
}

// P17.5: ErrDown of a Crash of a node that is down, ErrUp of a Start of one that is up; nothing is changed by them.
func TestTwice(t *testing.T) {
	n := holding(t, 3, plainConfig(), many(9))
	opened(t, n, 5)
	for range 3 {
		startRefuses(t, n, api.ErrUp)
		startRefuses(t, n, api.ErrUp)
		crashes(t, n)
		for range 2 {
			changes(t, "Crash", n, api.Counters{}, func() {
				if e := n.Crash(); e != api.ErrDown {
					t.Fatal(e)
				}
			})
		}
		starts(t, n)
	}
}

// P17.5: the lives are gone through one by one, from the first to the last; behind that ErrWorn, for good, and the map stays.
func TestAllLives(t *testing.T) {
	n := made(t, 7, plainConfig())
	for life := 1; life < mostLives; life++ {
		if e := n.Crash(); e != api.OK || n.Life() != life {
			t.Fatal(life, e, n.Life())
		}
		if e := n.Start(); e != api.OK || n.Life() != life+1 {
			t.Fatal(life, e, n.Life())
		}
	}
	if v, e := n.Put("a", "last"); v != (api.Version{Counter: 1, Node: 7}) || e != api.OK {
		t.Fatal(v, e)
	}
	isInLastLife(t, n, list(entry("a", 1, 7, "last")))
}

// isInLastLife asks that the node goes on as ever, but that behind a crash it is down for good.
func isInLastLife(t *testing.T, n *node.Node, held []api.Entry) {
	t.Helper()
	if f := opened(t, n, 0); f.Session != name(f.From, mostLives, 1) {
		t.Fatal(brief(f))
	}
	startRefuses(t, n, api.ErrUp)
	crashes(t, n)
	for range 3 {
		startRefuses(t, n, api.ErrWorn)
		if n.Up() || n.Life() != mostLives || !slices.Equal(n.Map(), held) {
			t.Fatal(n.Up(), n.Life(), quoted(n.Map()))
		}
	}
	asksForErrors(t, n, "a", "", api.ErrDown, api.ErrDown)
	tickIsDown(t, n)
	if e := n.Crash(); e != api.ErrDown {
		t.Fatal(e)
	}
}

// P17.5: the last life, of all maps.
func TestLastLife(t *testing.T) {
	for id, l := range sampleMaps() {
		n := made(t, (id+1)%7+1, plainConfig())
		feed(t, n, l)
		lastLife(t, n)
		isInLastLife(t, n, l)
	}
}

// P17.5, P17.8: the clock is what it was, also where nothing was written, and where it comes from what others wrote.
func TestClockStays(t *testing.T) {
	for _, counter := range []int{0, 1, 7, 1 << 20, greatest - 1} {
		n := made(t, 3, plainConfig())
		if counter > 0 {
			feed(t, n, list(entry("a", counter, 5, "")))
		}
		restart(t, n)
		restart(t, n)
		if v, e := n.Delete("b"); v != (api.Version{Counter: counter + 1, Node: 3}) || e != api.OK {
			t.Fatal(counter, v, e)
		}
	}
}

// W8: frames of the sessions of an earlier life are stale behind a crash, of whatever turn; but one of turn 0 begins its session anew, of whatever opener; those that the node itself opened are stale all.
func TestFramesOfAnEarlierLife(t *testing.T) {
	for _, n := range lives(t, 3, plainConfig(), 9)[:2] {
		own, theirs := opened(t, n, 5), first(name(6, 1, 1), 3, other(whole()))
		begun := answered(t, n, theirs)
		closed := first(name(7, 1, 1), 3, agreed(n))
		answered(t, n, closed)
		restart(t, n)
		for _, turn := range []int{1, 3, 5, lastTurn} {
			refuses(t, "opened here", n, api.Frame{From: 5, To: 3, Session: own.Session, Turn: turn}, api.ErrStale)
		}
		for _, turn := range []int{2, 4, lastTurn - 1} {
			refuses(t, "begun here", n, api.Frame{From: 6, To: 3, Session: begun.Session, Turn: turn}, api.ErrStale)
			refuses(t, "closed here", n, api.Frame{From: 7, To: 3, Session: closed.Session, Turn: turn}, api.ErrStale)
		}
		if again := answered(t, n, theirs); again.Session != begun.Session || again.Turn != 1 {
			t.Fatal(brief(again))
		}
		if again := answered(t, n, closed); again.Turn != 1 || len(again.Parts) > 0 {
			t.Fatal(brief(again))
		}
		// What is opened now is of the new life, and the answer to that of the earlier life is none of its frames.
		f := opened(t, n, 5)
		if f.Session != name(3, own.Session.Life+1, 1) {
			t.Fatal(brief(f))
		}
		refuses(t, "of an earlier life", n, back(own, items(whole(), at("new"))), api.ErrStale)
		unanswered(t, n, back(f))
	}
}

// P17.5: what the node refused in one life, as it was given up or forgotten, it has not heard of in the next one.
func TestWhatWasHeardOfIsGone(t *testing.T) {
	n := holding(t, 3, plainConfig(), many(9))
	begin := first(name(5, 4, 9), 3, other(whole()))
	f := answered(t, n, begin)
	unanswered(t, n, back(f, tooMuch()...))
	for _, s := range []api.Name{name(5, 4, 9), name(5, 4, 8), name(5, 3, mostLives), name(5, 1, 1)} {
		refuses(t, "given up", n, first(s, 3, other(whole())), api.ErrStale)
	}
	restart(t, n)
	for _, s := range []api.Name{name(5, 4, 9), name(5, 4, 8), name(5, 3, mostLives), name(5, 1, 1)} {
		answered(t, n, first(s, 3, other(whole())))
	}
}

// W8: a crash in the midst of a session, behind each of its frames, at either side or at both: what was taken stays; the opener's frames are stale behind the start, or begin the session anew; a later session meets as if there had been no crash.
func TestCrashInTheMidst(t *testing.T) {
	c := config(2, 1, 3, 1)
	for _, maps := range mapPairs()[7:11] {
		newest, _ := merge.Max(maps[0], maps[1])
		for crashed := 1; crashed <= 3; crashed++ {
			for turns := 0; ; turns++ {
				n0, n1 := holding(t, 0, c, maps[0]), holding(t, 7, c, maps[1])
				f, is := opened(t, n0, 7), true
				both := map[int]*node.Node{0: n0, 7: n1}
				for turn := 0; turn < turns && is; turn++ {
					f, is, _ = heard(t, both[f.To], f)
				}
				if !is {
					break
				}
				for i, n := range []*node.Node{n0, n1} {
					if crashed&(i+1) != 0 {
						crashes(t, n)
						starts(t, n)
					}
				}
				handAround(t, f, both)
				for _, n := range both {
					waitOut(t, n, c)
				}
				handOn(t, opened(t, n0, 7), both)
				for id, n := range both {
					if held := n.Map(); !slices.Equal(held, newest) {
						t.Fatalf("node %d: %s, want %s", id, quoted(held), quoted(newest))
					}
				}
			}
		}
	}
}

// handAround hands on a frame, and what comes of it, as long as it is taken without an error; with one it must be ErrStale, and nothing is changed by it.
func handAround(t *testing.T, f api.Frame, nodes map[int]*node.Node) {
	t.Helper()
	for range 2*lastTurn + 2 {
		n := nodes[f.To]
		was := shoot(n)
		data, h, e := n.Deliver(bytesOf(t, f))
		if e == api.ErrStale {
			was.k.Stale++
			if now := shoot(n); !now.is(was) || len(data) > 0 || h != (api.Heard{}) {
				t.Fatalf("%s, want %s", quoted(now), quoted(was))
			}
			return
		}
		if e != api.OK {
			t.Fatal(brief(f), e)
		}
		if len(data) == 0 {
			return
		}
		f = frameOf(t, data)
	}
	t.Fatal("no end")
}

// waitOut lets so many ticks go by that each session is closed, or given up.
func waitOut(t *testing.T, n *node.Node, c api.Config) {
	t.Helper()
	for range c.Wait * (c.Tries + 1) {
		tick(t, n)
	}
	for _, x := range n.Talks() {
		if !x.Over {
			t.Fatalf("%+v", n.Talks())
		}
	}
}

// The ninth of the examples of the whole: behind the peer's crash and start the opener gives up behind Wait * (Tries + 1) ticks, and opens another one.
func TestExampleOfACrash(t *testing.T) {
	c := config(2, 1, 3, 1)
	n0, n1 := holding(t, 0, c, many(20)), holding(t, 1, c, many(5))
	both := map[int]*node.Node{0: n0, 1: n1}
	f := answered(t, n1, answered(t, n0, answered(t, n1, opened(t, n0, 1))))
	crashes(t, n1)
	starts(t, n1)
	mine := answered(t, n0, f)
	refuses(t, "of a session that it has no more", n1, mine, api.ErrStale)
	ticks(t, n0, 2)
	tickTells(t, n0, mine)
	refuses(t, "sent again", n1, mine, api.ErrStale)
	ticks(t, n0, 2)
	counts(t, "given up", n0, api.Counters{Lost: 1}, func() { tickTells(t, n0) })
	handOn(t, opened(t, n0, 1), both)
	if !slices.Equal(n0.Map(), n1.Map()) || len(n0.Map()) != 20 {
		t.Error(quoted(n0.Map()), quoted(n1.Map()))
	}
}

// P17.2 to P17.5: all calls that need the node up answer ErrDown ahead of all other errors, whatever they are given, and nothing at all is changed; of a node with any map, in any life.
func TestEveryCallWhileDown(t *testing.T) {
	for id, l := range sampleMaps() {
		n := holding(t, id, plainConfig(), l)
		opened(t, n, (id+1)%8)
		begin := bytesOf(t, first(name((id+1)%8, 1, 1), id, other(whole())))
		crashes(t, n)
		for _, key := range keys() {
			asksForErrors(t, n, key, tooLongValue, api.ErrDown, api.ErrDown)
		}
		for _, peer := range []int{math.MinInt, -1, id, (id + 1) % 8, 8, math.MaxInt} {
			openRefuses(t, "down", n, peer, api.ErrDown)
		}
		for _, b := range [][]byte{nil, {}, {1}, begin, begin[1:], make([]byte, 70000)} {
			refusesBytes(t, "down", n, b, api.ErrDown)
		}
		tickIsDown(t, n)
		starts(t, n)
	}
}
