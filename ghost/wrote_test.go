package ghost_test

import (
	"math/rand/v2"
	"testing"

	"tideline/api"
	"tideline/ghost"
)

// entriesThatMayBe are such of all sorts: no two of one key and one version are unlike.
func entriesThatMayBe() []api.Entry {
	l := list(
		entry("", 1, 0, ""), entry("", 1, 1, ""), dead("", 2, 0),
		entry("", greatest, 7, longValue), dead("", greatest, 6),
		entry(longKey, 1, 0, "x"), entry(highest, greatest, 7, longValue), entry(lowest, 3, 3, "\x00"),
		entry("k", 1, 0, ""), entry("k", 1, 1, ""), entry("k", 2, 0, ""), entry("k", 2, 1, "v"), dead("k", 3, 0),
		entry("k\x00", 1, 0, ""), dead("kk", 1, 0), entry("l", 1, 0, ""),
	)
	for _, key := range oddKeys() {
		l = append(l, entry(key, 9, 5, "of nine"))
	}
	for node := range allNodes {
		l = append(l, entry("one", 4, node, "by a node"))
	}
	for counter := 5; counter < 50; counter++ {
		l = append(l, entry("one", counter, 3, "at a time"))
	}
	return l
}

// others are entries of e's key and version that are not e.
func others(e api.Entry) []api.Entry {
	var l []api.Entry
	for _, other := range list(
		entry(e.Key, e.Version.Counter, e.Version.Node, ""),
		entry(e.Key, e.Version.Counter, e.Version.Node, e.Value[:len(e.Value)/2]),
		entry(e.Key, e.Version.Counter, e.Version.Node, "\x00"),
		entry(e.Key, e.Version.Counter, e.Version.Node, longValue[1:]+"w"),
		dead(e.Key, e.Version.Counter, e.Version.Node),
	) {
		if other != e {
			l = append(l, other)
		}
	}
	return l
}

// asWritten holds what is told of these entries, and of others like them, against the second reading.
func asWritten(t *testing.T, g *ghost.Ghost, p *plain, l []api.Entry) {
	t.Helper()
	for _, x := range l {
		for _, y := range append(others(x), x) {
			if is := g.Written(y); is != p.written(y) {
				t.Fatalf("Written(%s): %t", quoted(y), is)
			}
		}
	}
}

// P19.1: a new ghost was told nothing: nothing was written, no node was seen.
func TestNewKnowsNothing(t *testing.T) {
	g := ghost.New()
	if g == nil {
		t.Fatal("New(): nil")
	}
	asWritten(t, g, &plain{}, append(entriesThatMayBe(), none, entry("", 0, 0, "x")))
	for node := -2; node < allNodes+2; node++ {
		holds(t, g, node, nil)
	}
	sees(t, g, 0, list(at("a", 1)), "a", api.ErrForged)
	sees(t, g, 7, nil, "", api.OK)
}

// P19.1: the chapter's example.
func TestWroteExample(t *testing.T) {
	g := ghost.New()
	a1, a2 := at("a", 1), at("a", 2)
	other := entry("a", 1, 0, "other")
	wrote(t, g, a1, a1)
	if e := g.Wrote(other); e != api.ErrTwice {
		t.Errorf("Wrote: %d", e)
	}
	if !g.Written(a1) || g.Written(a2) || g.Written(other) {
		t.Error(g.Written(a1), g.Written(a2), g.Written(other))
	}
}

// P19.1: just what was written is, entry by entry: keys and versions may come in any order, and again.
func TestWritten(t *testing.T) {
	g, p := ghost.New(), &plain{}
	all := entriesThatMayBe()
	for range 2 {
		for i := range all {
			x := all[(i*37+11)%len(all)]
			wrote(t, g, x)
			p.wrote(x)
			asWritten(t, g, p, all)
		}
	}
}

// P19.1: another entry of one key and version is refused, by its Value as by its being Dead, and the first one stays; it is the other's turn with another key or version.
func TestTwice(t *testing.T) {
	for _, x := range entriesThatMayBe() {
		g, p := ghost.New(), &plain{}
		wrote(t, g, x)
		p.wrote(x)
		for _, y := range others(x) {
			for range 2 {
				if e := g.Wrote(y); e != api.ErrTwice {
					t.Fatalf("Wrote(%s), Wrote(%s): %d", quoted(x), quoted(y), e)
				}
			}
			asWritten(t, g, p, list(x))
			wrote(t, g, x)
		}
		for _, y := range others(x) {
			y.Version.Node = (y.Version.Node + 1) % allNodes
			if e, want := g.Wrote(y), p.wrote(y); e != want {
				t.Fatalf("Wrote(%s), Wrote(%s): %d, want %d", quoted(x), quoted(y), e, want)
			}
			asWritten(t, g, p, list(x, y))
		}
	}
}

// P19.1: one key has many versions, and one version is under many keys: all of them are written side by side.
func TestManyWrites(t *testing.T) {
	g := ghost.New()
	var all []api.Entry
	for counter := 1; counter <= 40; counter++ {
		for node := range allNodes {
			for i, key := range oddKeys() {
				if (i+counter+node)%3 == 0 {
					all = append(all, dead(key, counter, node))
				} else {
					all = append(all, entry(key, counter, node, key))
				}
			}
		}
	}
	wrote(t, g, all...)
	for _, x := range all {
		if !g.Written(x) {
			t.Fatalf("%s is not written", quoted(x))
		}
		x.Version.Counter += 40
		if g.Written(x) {
			t.Fatalf("%s is written", quoted(x))
		}
	}
}

// P19.1: keys whose bytes and versions might run into one another are kept apart.
func TestWritesAreKeptApart(t *testing.T) {
	l := list(
		entry("a", 11, 1, ""), entry("a", 1, 1, ""), entry("a1", 1, 1, ""), entry("a", 1, 7, ""),
		entry("a\x00", 1, 1, ""), entry("a\x01", 1, 1, ""), entry("", 1, 1, "a"), entry("a", 1<<32+1, 1, ""), entry("a", 1<<39+1, 1, ""),
		entry("ä", 1, 1, ""), entry("\xc3", 1, 1, ""), entry("\xe4", 1, 1, ""), entry("A", 1, 1, ""),
	)
	for i := range l {
		g, p := ghost.New(), &plain{}
		wrote(t, g, l[i])
		p.wrote(l[i])
		asWritten(t, g, p, l)
	}
	g, p := ghost.New(), &plain{}
	for i, x := range l {
		if i%2 == 1 {
			x = others(x)[0]
		}
		wrote(t, g, x)
		p.wrote(x)
	}
	asWritten(t, g, p, l)
}

// P19.1: any writes, held against the second reading.
func TestAnyWrites(t *testing.T) {
	for seed := range uint64(60) {
		rnd := rand.New(rand.NewPCG(19, seed))
		g, p := ghost.New(), &plain{}
		var all []api.Entry
		for range 150 {
			x := anyEntry(rnd)
			all = append(all, x)
			if e, want := g.Wrote(x), p.wrote(x); e != want {
				t.Fatalf("Wrote(%s): %d, want %d", quoted(x), e, want)
			}
			if y := all[rnd.IntN(len(all))]; g.Written(y) != p.written(y) {
				t.Fatalf("Written(%s): %t", quoted(y), g.Written(y))
			}
		}
		for _, x := range all {
			if g.Written(x) != p.written(x) {
				t.Fatalf("Written(%s): %t", quoted(x), g.Written(x))
			}
		}
	}
}

// anyEntry is mostly one that may be, of few keys and versions; it may be another one of one that was.
func anyEntry(rnd *rand.Rand) api.Entry {
	keys := []string{"", "a", "a\x00", "b", longKey}
	x := entry(keys[rnd.IntN(len(keys))], 1+rnd.IntN(6), rnd.IntN(3), []string{"", "x", longValue}[rnd.IntN(3)])
	if rnd.IntN(3) == 0 {
		x = dead(x.Key, x.Version.Counter, x.Version.Node)
	}
	switch rnd.IntN(40) {
	case 0:
		x.Key = tooLongKey
	case 1:
		x.Version.Counter = []int{0, -1, greatest + 1, lowInt, highInt}[rnd.IntN(5)]
	case 2:
		x.Version.Node = []int{-1, allNodes, lowInt, highInt}[rnd.IntN(4)]
	case 3:
		x.Value = tooLongValue
	case 4:
		x.Value, x.Dead = "v", true
	}
	return x
}
