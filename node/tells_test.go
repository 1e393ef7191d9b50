package node_test

import (
	"slices"
	"testing"

	"tideline/api"
	"tideline/image"
	"tideline/node"
	"tideline/store"
	"tideline/tally"
)

// P17.6: whether it is up, and its life, which is the last one while it is down; through several lives.
func TestUpAndLife(t *testing.T) {
	n := made(t, 3, plainConfig())
	for life := 1; life <= 40; life++ {
		if !n.Up() || n.Life() != life {
			t.Fatal(n.Up(), n.Life())
		}
		n.Start()
		if !n.Up() || n.Life() != life {
			t.Fatal(n.Up(), n.Life())
		}
		n.Crash()
		for range 2 {
			if n.Up() || n.Life() != life {
				t.Fatal(n.Up(), n.Life())
			}
			n.Crash()
		}
		n.Start()
	}
}

// P17.6: Map tells all entries, dead ones too, by rising keys, while it is up and while it is down, in whatever order they came.
func TestMap(t *testing.T) {
	for _, l := range sampleMaps() {
		n := made(t, 3, plainConfig())
		for i := range l {
			// One by one, from the last to the first.
			feed(t, n, l[len(l)-1-i:len(l)-i])
			if i%8 > 0 {
				continue
			}
			if held := n.Map(); !slices.Equal(held, l[len(l)-1-i:]) {
				t.Fatal(quoted(held))
			}
		}
		crashes(t, n)
		if held := n.Map(); !slices.Equal(held, l) {
			t.Fatal(quoted(held))
		}
		starts(t, n)
	}
}

// P17.6: what Map told stays what it was, whatever is done since.
func TestMapIsKept(t *testing.T) {
	n := holding(t, 3, plainConfig(), many(20))
	up := n.Map()
	writes(t, n, numbered(5, 20)...)
	want := n.Map()
	n.Crash()
	down := n.Map()
	n.Start()
	writes(t, n, numbered(0, 30)...)
	if !slices.Equal(up, many(20)) || !slices.Equal(down, want) {
		t.Error(quoted(up), quoted(down))
	}
}

// P17.6: Talks are the desk's, in the order in which the node came to have them; while it is down there are none, and behind a Start neither.
func TestTalks(t *testing.T) {
	for _, n := range lives(t, 3, config(2, 1, 2, 9), 9)[1:] {
		life := n.Life()
		isTold(t, n)
		own := opened(t, n, 0)
		isTold(t, n, api.Talk{Session: name(3, life, 1), Peer: 0})
		answered(t, n, first(name(7, mostLives, mostLives), 3, other(whole())))
		tick(t, n)
		tick(t, n)
		upTo(t, n, own, 8)
		answered(t, n, first(name(1, 2, 3), 3, agreed(n)))
		upTo(t, n, answered(t, n, first(name(1, 2, 4), 3, other(whole()))), lastTurn)
		unanswered(t, n, back(answered(t, n, first(name(2, 1, 1), 3, other(whole()))), tooMuch()...))
		isTold(t, n,
			api.Talk{Session: name(3, life, 1), Peer: 0, Turn: 8},
			api.Talk{Session: name(7, mostLives, mostLives), Peer: 7, Turn: 1, Tries: 1},
			api.Talk{Session: name(1, 2, 3), Peer: 1, Turn: 1, Over: true},
			api.Talk{Session: name(1, 2, 4), Peer: 1, Turn: lastTurn},
		)
		crashes(t, n)
		isTold(t, n)
		if n.Start() == api.OK {
			isTold(t, n)
		}
	}
}

func isTold(t *testing.T, n *node.Node, want ...api.Talk) {
	t.Helper()
	if l := n.Talks(); !slices.Equal(l, want) {
		t.Fatalf("%+v, want %+v", l, want)
	}
}

// calls are some that may let Joins grow.
func calls(i int, key string) []func(s writer) {
	return []func(s writer){
		func(s writer) { s.Put(key, "v") },
		func(s writer) { s.Delete(key) },
		func(s writer) { s.Fold(ranges()[i%len(ranges())]) },
		func(s writer) { s.Get(key) },
	}
}

// writer is a node, or a store.
type writer interface {
	Put(key, value string) (api.Version, api.Errno)
	Delete(key string) (api.Version, api.Errno)
	Get(key string) (api.Entry, bool, api.Errno)
	Fold(r api.Range) (api.Tally, api.Errno)
	Joins() int
}

// P17.6, W2: Joins are the store's: they grow as those of a store to which the same is done, and no call lets them grow by more than the bound; while the node is down they stay.
func TestJoins(t *testing.T) {
	s, e := store.New(3)
	if e != api.OK {
		t.Fatal(e)
	}
	n := made(t, 3, plainConfig())
	grown := 0
	for i := range 4 * most {
		for _, call := range calls(i, numbered(i*37%most, 1)[0]) {
			was, also := n.Joins(), s.Joins()
			call(n)
			call(s)
			grew := n.Joins() - was
			if grew != s.Joins()-also || grew < 0 || grew > tally.Bound(len(n.Map())) {
				t.Fatal(i, grew, s.Joins()-also)
			}
			grown += grew
		}
		if i%100 != 99 {
			continue
		}
		crashes(t, n)
		n.Put("a", "")
		n.Fold(whole())
		if e := n.Start(); e != api.OK {
			t.Fatal(e)
		}
		data, _ := image.Put(s)
		s, _ = image.Load(data)
	}
	if grown < 1000 {
		t.Error(grown)
	}
}

// P17.6: what is asked changes nothing that is told.
func TestAskingChangesNothing(t *testing.T) {
	n := holding(t, 3, plainConfig(), many(40))
	opened(t, n, 5)
	answered(t, n, first(name(5, 1, 1), 3, other(whole())))
	for range 2 {
		want := shoot(n)
		for range 5 {
			if now := shoot(n); !now.is(want) {
				t.Fatalf("%s, want %s", quoted(now), quoted(want))
			}
		}
		n.Crash()
	}
}
