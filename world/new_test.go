package world_test

import (
	"testing"

	"tideline/api"
	"tideline/frame"
	"tideline/world"
)

// notMade asks for ErrArg, and no world beside it.
func notMade(t *testing.T, nodes int, c api.Config) {
	t.Helper()
	if w, e := world.New(nodes, c); w != nil || e != api.ErrArg {
		t.Errorf("New(%d, %v): %v, %d", nodes, c, w != nil, e)
	}
}

// P20.1: worlds of each count of nodes that may be, and of no other.
func TestNewNodes(t *testing.T) {
	for nodes := 2; nodes <= mostNodes; nodes++ {
		if n := made(t, nodes, plainConfig()).Nodes(); n != nodes {
			t.Errorf("%d nodes, want %d", n, nodes)
		}
	}
	for _, nodes := range append(outside(2, mostNodes), 0, 1, 9) {
		notMade(t, nodes, plainConfig())
	}
}

// P20.1: Configs at the bounds of each field, and beyond each.
func TestNewConfigs(t *testing.T) {
	for _, c := range sampleConfigs() {
		for _, nodes := range []int{2, 5, mostNodes} {
			if n := made(t, nodes, c).Nodes(); n != nodes {
				t.Errorf("%v: %d nodes, want %d", c, n, nodes)
			}
		}
	}
	for _, c := range []api.Config{{}, {Branch: 1, Tries: -1}, config(17, 33, 101, 21)} {
		notMade(t, 2, c)
		notMade(t, 1, c)
	}
	for _, n := range outside(2, 16) {
		notMade(t, 2, config(n, 1, 1, 0))
	}
	for _, n := range outside(1, 32) {
		notMade(t, mostNodes, config(2, n, 1, 0))
	}
	for _, n := range outside(1, 100) {
		notMade(t, 2, config(2, 1, n, 0))
	}
	for _, n := range outside(0, 20) {
		notMade(t, mostNodes, config(2, 1, 1, n))
	}
}

// P20.1: all nodes are up, in their first lives, and hold nothing; nothing was counted; the bag is empty.
func TestNewWorld(t *testing.T) {
	for nodes := 2; nodes <= mostNodes; nodes++ {
		w := made(t, nodes, plainConfig())
		tells(t, w, bag(), api.Answer{})
		for n := range nodes {
			if s := look(w, n); !s.is(seen{up: true}) {
				t.Errorf("node %d: %s", n, quoted(s))
			}
		}
		for n := range nodes {
			tells(t, w, put(n, "k", ""), api.Answer{Version: api.Version{Counter: 1, Node: n}})
			tells(t, w, open(n, (n+1)%nodes), api.Answer{Session: name(n, 1, 1)})
		}
	}
}

// P20.1: the bag has room for MaxBag frames.
func TestNewBag(t *testing.T) {
	w := made(t, 2, plainConfig())
	all(t, w, open(0, 1))
	fill(t, w, room)
	all(t, w, double(0), open(1, 0))
	l := packets(t, w)
	if len(l) != room || l[room-1].Num != room || l[room-1].From != 0 {
		t.Errorf("%d frames, the last one %v", len(l), l[len(l)-1])
	}
}

// P20.1: each node has just that Config: how much is said, how long is waited, and how often sent again.
func TestNewConfigOfNodes(t *testing.T) {
	for _, c := range sampleConfigs() {
		w := made(t, mostNodes, c)
		for n := range mostNodes {
			isConfigOf(t, w, n, c)
		}
	}
}

// isConfigOf asks what a node says of Leaf entries, and of one more; and when it gives up.
func isConfigOf(t *testing.T, w *world.World, n int, c api.Config) {
	t.Helper()
	peer := (n + 1) % mostNodes
	s := name(peer, 1, 100*n+1)
	for _, key := range numbered(0, c.Leaf) {
		all(t, w, put(n, key, ""))
	}
	all(t, w, raw(n, bytesOf(t, first(s, n, other()))), put(n, "z", ""))
	s.Number++
	all(t, w, raw(n, bytesOf(t, first(s, n, other()))))
	l := frames(t, w)
	if len(l) != 2 || len(l[0].Parts) != 1 || l[0].Parts[0].Kind != 2 || len(l[0].Parts[0].Entries) != c.Leaf || len(l[1].Parts) != min(c.Branch, c.Leaf+1) || l[1].Parts[0].Kind != 1 {
		t.Fatalf("node %d, %v: %s", n, c, briefly(l))
	}
	all(t, w, drop(0), drop(0))
	for range c.Wait * c.Tries {
		all(t, w, tick(n))
	}
	again := frames(t, w)
	if len(again) != 2*c.Tries {
		t.Fatalf("node %d, %v: %d frames went out again", n, c, len(again))
	}
	for i, f := range again {
		if !frame.Same(f, l[i%2]) {
			t.Fatalf("node %d, %v: %s, want %s", n, c, brief(f), brief(l[i%2]))
		}
		all(t, w, drop(0))
	}
	for range c.Wait - 1 {
		all(t, w, tick(n))
	}
	if l := do(t, w, talks(n)).Talks; len(l) != 2 || l[0].Tries != c.Tries {
		t.Fatalf("node %d, %v: %v", n, c, l)
	}
	all(t, w, tick(n))
	tells(t, w, talks(n), api.Answer{})
}

// P20.1, R5: Nodes tells the same at any time.
func TestNodesStays(t *testing.T) {
	w := made(t, 3, plainConfig())
	for _, o := range every() {
		w.Do(o)
		if n := w.Nodes(); n != 3 {
			t.Fatalf("behind %v: %d", o, n)
		}
	}
}
