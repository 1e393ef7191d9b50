package node_test

import (
	"math/rand/v2"
	"slices"
	"testing"

	"tideline/api"
	"tideline/cuts"
	"tideline/frame"
	"tideline/merge"
	"tideline/node"
)

// someMap is a map of some of these keys, each with one of few versions; what stands there is the same for all of one key and version.
func someMap(rnd *rand.Rand, keys []string) []api.Entry {
	var l []api.Entry
	often := 1 + rnd.IntN(6)
	for i, key := range keys {
		if rnd.IntN(often) > 0 || rnd.IntN(20) == 0 {
			counter, node := 1+rnd.IntN(3), rnd.IntN(2)
			if (i+counter)%4 == 0 {
				l = append(l, dead(key, counter, node))
			} else {
				l = append(l, entry(key, counter, node, string([]byte{byte(counter), byte(node), byte(i)})))
			}
		}
	}
	return l
}

// twoMaps are some, of few keys or many, alike or not.
func twoMaps(rnd *rand.Rand) ([]api.Entry, []api.Entry) {
	keys := [][]string{oddKeys(), numbered(0, 40), numbered(0, most)}[rnd.IntN(3)]
	a, b := someMap(rnd, keys), someMap(rnd, keys)
	if rnd.IntN(3) == 0 {
		b = slices.Clone(a)
		for range rnd.IntN(4) {
			if len(b) > 0 {
				b = slices.Delete(b, 0, 1+rnd.IntN(len(b)))
			}
		}
	}
	return a, b
}

// W5, W6: a session of which every frame comes: both maps are the newest of both; where they were the same it is one frame and the closing one, and no entry moves; where they differ at d keys, it has no more turns and entries than the bounds say; all by the counters of both.
func TestSessionsMeetAndWhatTheyCost(t *testing.T) {
	rnd := rand.New(rand.NewPCG(17, 6))
	for range 300 {
		a, b := twoMaps(rnd)
		c := config(2+rnd.IntN(15), 1+rnd.IntN(32), 1, 0)
		both := map[int]*node.Node{0: holding(t, 0, c, a), 7: holding(t, 7, c, b)}
		was := plus(both[0].Counters(), both[7].Counters())
		handOn(t, opened(t, both[0], 7), both)
		newest, _ := merge.Max(a, b)
		for id, n := range both {
			if held := n.Map(); !slices.Equal(held, newest) {
				t.Fatalf("node %d: %s, want %s", id, quoted(held), quoted(newest))
			}
		}
		k := plus(both[0].Counters(), both[7].Counters())
		sent, moved := k.Sent-was.Sent, k.Moved-was.Moved
		if slices.Equal(a, b) && (sent != 2 || moved != 0) {
			t.Fatalf("equal maps: %d frames, %d entries", sent, moved)
		}
		differ, _ := merge.Differ(a, b)
		turns, _ := cuts.Turns(c.Branch)
		moves, _ := cuts.Moves(len(differ), c.Leaf)
		if sent > turns || moved > moves {
			t.Fatalf("%v, %d keys: %d frames of %d, %d entries of %d", c, len(differ), sent, turns, moved, moves)
		}
	}
}

// lossily lets frames be lost, doubled, held up and overtaken, and sent again by ticks, until nothing can happen any more; nodes may crash, and start.
func lossily(t *testing.T, rnd *rand.Rand, data []byte, both map[int]*node.Node, crashes bool) {
	t.Helper()
	bag := [][]byte{data}
	loss, doubled, hurried := rnd.IntN(5), rnd.IntN(4), rnd.IntN(3)
	for range 3000 {
		if len(bag) == 0 && isQuiet(both) {
			return
		}
		n := both[rnd.IntN(2)*7]
		if crashes && rnd.IntN(40) == 0 {
			restart(t, n)
		}
		if len(bag) == 0 || rnd.IntN(4) < hurried {
			l, _ := n.Tick()
			bag = append(bag, l...)
			continue
		}
		i := rnd.IntN(len(bag))
		b := bag[i]
		if rnd.IntN(8) >= doubled {
			bag = slices.Delete(bag, i, i+1)
		}
		if rnd.IntN(8) < loss {
			continue
		}
		n = both[frameOf(t, b).To]
		was := n.Map()
		answer, _, e := n.Deliver(b)
		movesUp(t, was, n.Map())
		if e != api.OK && e != api.ErrStale {
			t.Fatal(e)
		}
		if len(answer) > 0 {
			bag = append(bag, answer)
		}
	}
}

// isQuiet says whether neither waits for anything.
func isQuiet(both map[int]*node.Node) bool {
	for _, n := range both {
		if slices.ContainsFunc(n.Talks(), func(x api.Talk) bool { return !x.Over }) {
			return false
		}
	}
	return true
}

// closedAtBoth says whether the one session that there was is closed at both.
func closedAtBoth(both map[int]*node.Node, s api.Name) bool {
	for _, n := range both {
		if !slices.ContainsFunc(n.Talks(), func(x api.Talk) bool { return x.Session == s && x.Over }) {
			return false
		}
	}
	return true
}

// W7: whatever becomes of the frames on the way: where the session is closed at both sides, the maps are what they are where every frame comes once; and no more sessions count as closed, or lost, than there were.
func TestLosses(t *testing.T) {
	rnd := rand.New(rand.NewPCG(17, 77))
	closed, not := 0, 0
	for range 500 {
		a, b := twoMaps(rnd)
		c := config(2+rnd.IntN(15), 1+rnd.IntN(32), 1+rnd.IntN(5), rnd.IntN(6))
		both := map[int]*node.Node{0: holding(t, 0, c, a), 7: holding(t, 7, c, b)}
		was := map[int]api.Counters{0: both[0].Counters(), 7: both[7].Counters()}
		s, data, _ := both[0].Open(7)
		lossily(t, rnd, data, both, false)
		for id, n := range both {
			k := n.Counters()
			if ended := k.Closed + k.Lost - was[id].Closed - was[id].Lost; ended > 1 || k.Sent-k.Again-was[id].Sent > lastTurn+1 {
				t.Fatalf("node %d: %+v, %+v", id, was[id], k)
			}
		}
		if !closedAtBoth(both, s) {
			not++
			continue
		}
		closed++
		newest, _ := merge.Max(a, b)
		for id, n := range both {
			if held := n.Map(); !slices.Equal(held, newest) {
				t.Fatalf("node %d: %s, want %s", id, quoted(held), quoted(newest))
			}
			if k := n.Counters(); k.Closed != was[id].Closed+1 || k.Lost != was[id].Lost {
				t.Fatalf("node %d: %+v, %+v", id, was[id], k)
			}
		}
	}
	if closed < 100 || not < 50 {
		t.Errorf("%d sessions were closed, %d were not", closed, not)
	}
}

// W8, P17.8: crashes on top of that, at either side, while sessions go on: maps move up alone, nothing is held that was not held by one of both, and when it is calm a later session meets as if there had been no crash.
func TestLossesAndCrashes(t *testing.T) {
	rnd := rand.New(rand.NewPCG(17, 8))
	for range 200 {
		a, b := twoMaps(rnd)
		c := config(2+rnd.IntN(15), 1+rnd.IntN(32), 1+rnd.IntN(5), rnd.IntN(6))
		both := map[int]*node.Node{0: holding(t, 0, c, a), 7: holding(t, 7, c, b)}
		newest, _ := merge.Max(a, b)
		for range 3 {
			_, data, e := both[0].Open(7)
			if e != api.OK {
				t.Fatal(e)
			}
			lossily(t, rnd, data, both, true)
			for id, n := range both {
				if k := n.Counters(); k.Closed+k.Lost > k.Sent {
					t.Fatalf("node %d: %+v", id, k)
				}
				if above, _ := merge.Above(newest, n.Map()); !above {
					t.Fatalf("node %d: %s", id, quoted(n.Map()))
				}
			}
		}
		waitOut(t, both[0], c)
		waitOut(t, both[7], c)
		handOn(t, opened(t, both[7], 0), both)
		for id, n := range both {
			if held := n.Map(); !slices.Equal(held, newest) {
				t.Fatalf("node %d: %s, want %s", id, quoted(held), quoted(newest))
			}
		}
	}
}

// W3, P17.8: where all frames were sent by nodes, every entry that is held was written, with just those bytes; four nodes write, open sessions with one another, crash and start, and their frames are lost and overtaken.
func TestNothingIsHeldThatWasNotWritten(t *testing.T) {
	rnd := rand.New(rand.NewPCG(17, 3))
	for range 20 {
		var nodes [4]*node.Node
		for i := range nodes {
			nodes[i] = made(t, i, config(2+rnd.IntN(15), 1+rnd.IntN(32), 1+rnd.IntN(3), rnd.IntN(4)))
		}
		written := map[api.Entry]bool{}
		var bag [][]byte
		for step := range 1500 {
			id := rnd.IntN(4)
			n := nodes[id]
			was := n.Map()
			switch rnd.IntN(9) {
			case 0:
				writesOne(t, n, numbered(rnd.IntN(300), 1)[0], step, written)
			case 1:
				if _, data, e := n.Open((id + 1 + rnd.IntN(3)) % 4); e == api.OK {
					bag = append(bag, data)
				}
			case 2:
				l, _ := n.Tick()
				bag = append(bag, l...)
			case 3:
				if rnd.IntN(10) == 0 {
					restart(t, n)
				}
			default:
				if len(bag) > 0 {
					i := rnd.IntN(len(bag))
					b := bag[i]
					bag = slices.Delete(bag, i, i+1)
					n = nodes[frameOf(t, b).To]
					was = n.Map()
					if data, _, e := n.Deliver(b); e == api.OK && len(data) > 0 {
						bag = append(bag, data)
					}
				}
			}
			held := n.Map()
			movesUp(t, was, held)
			for _, x := range held {
				if !written[x] {
					t.Fatalf("node %d holds %s", id, quoted(x))
				}
			}
		}
	}
}

// writesOne puts, or deletes; what was written is newer than all that the node held.
func writesOne(t *testing.T, n *node.Node, key string, step int, written map[api.Entry]bool) {
	t.Helper()
	clock := 0
	for _, x := range n.Map() {
		clock = max(clock, x.Version.Counter)
	}
	x := api.Entry{Key: key, Dead: step%3 == 0}
	var e api.Errno
	if x.Dead {
		x.Version, e = n.Delete(key)
	} else {
		x.Value = string([]byte{byte(step >> 8), byte(step)})
		x.Version, e = n.Put(key, x.Value)
	}
	if e == api.ErrFull {
		return
	}
	if e != api.OK || x.Version.Counter != clock+1 {
		t.Fatal(e, x.Version, clock)
	}
	written[x] = true
}

// W9: nodes that reconcile one behind the other, each with the next one, and back again, all hold the newest of all.
func TestAllOfThem(t *testing.T) {
	rnd := rand.New(rand.NewPCG(17, 9))
	for range 20 {
		c := config(2+rnd.IntN(15), 1+rnd.IntN(32), 1, 0)
		nodes := map[int]*node.Node{}
		var newest []api.Entry
		for id := range 8 {
			l := someMap(rnd, numbered(0, 30+rnd.IntN(most-29)))
			nodes[id] = holding(t, id, c, l)
			newest, _ = merge.Max(newest, l)
		}
		for id := range 7 {
			handOn(t, opened(t, nodes[id], id+1), nodes)
		}
		for id := 7; id > 0; id-- {
			handOn(t, opened(t, nodes[id], id-1), nodes)
		}
		for id, n := range nodes {
			if held := n.Map(); !slices.Equal(held, newest) {
				t.Fatalf("node %d: %s, want %s", id, quoted(held), quoted(newest))
			}
			if k := n.Counters(); k.Full > 0 || k.Lost > 0 {
				t.Fatalf("node %d: %+v", id, k)
			}
		}
	}
}

// The sixth, the seventh and the tenth of the examples of the whole.
func TestMoreExamples(t *testing.T) {
	c := config(2, 1, 3, 1)
	nodes := map[int]*node.Node{0: made(t, 0, c), 1: made(t, 1, c), 2: made(t, 2, c)}
	for _, id := range []int{0, 1} {
		for range 4 {
			nodes[id].Put("k", string([]byte{'0' + byte(id)}))
		}
	}
	handOn(t, opened(t, nodes[0], 1), nodes)
	for _, id := range []int{0, 1} {
		if l := nodes[id].Map(); !slices.Equal(l, list(entry("k", 4, 1, "1"))) {
			t.Error(quoted(l))
		}
	}
	if v, e := nodes[0].Put("k", ""); v != (api.Version{Counter: 5}) || e != api.OK {
		t.Error(v, e)
	}

	full, one := holding(t, 1, c, many(most)), holding(t, 0, c, list(entry("another", 1, 0, "")))
	handOn(t, opened(t, one, 1), map[int]*node.Node{0: one, 1: full})
	if k := full.Counters(); k.Full != 1 || !slices.Equal(full.Map(), many(most)) {
		t.Errorf("%+v", k)
	}

	nodes = map[int]*node.Node{}
	for id, key := range []string{"a", "b", "c"} {
		nodes[id] = made(t, id, c)
		nodes[id].Put(key, "")
	}
	for _, s := range [][2]int{{0, 1}, {1, 2}, {0, 1}} {
		if all := handOn(t, opened(t, nodes[s[0]], s[1]), nodes); !frame.Closing(all[len(all)-1]) {
			t.Fatal(briefly(all))
		}
	}
	for id, n := range nodes {
		want := list(entry("a", 1, 0, ""), entry("b", 1, 1, ""), entry("c", 1, 2, ""))
		if l := n.Map(); !slices.Equal(l, want) {
			t.Errorf("node %d: %s", id, quoted(l))
		}
	}
}

// The eighth of them: the closing frame is lost; the other side's last frame goes out again, and is answered by it once more.
func TestExampleOfALoss(t *testing.T) {
	c := config(2, 1, 3, 1)
	n0, n1 := holding(t, 0, c, list(at("a"), at("b"))), holding(t, 1, c, list(at("a")))
	reply := answered(t, n0, answered(t, n1, opened(t, n0, 1)))
	closing := answered(t, n1, reply)
	if !frame.Closing(closing) {
		t.Fatal(brief(closing))
	}
	ticks(t, n1, 20)
	ticks(t, n0, 2)
	tickTells(t, n0, reply)
	comesAgain(t, n1, reply, closing)
	counts(t, "closed", n0, api.Counters{Heard: 1, Closed: 1}, func() { unanswered(t, n0, closing) })
	ticks(t, n0, 20)
}
