package ghost_test

import (
	"slices"
	"testing"

	"tideline/api"
	"tideline/ghost"
)

// R3: nothing that is handed in is changed, nor what lies behind its length, whether it is taken or refused.
func TestHandedInStays(t *testing.T) {
	lower, upper := twins(0, 1)
	samples := append(sampleMaps(), list(lower, at("z", 1)), list(upper, at("z", 2)), list(none), list(at("b", 1), at("a", 1)), many(most+1))
	g := ghost.New()
	for _, x := range under(oddKeys(), 0) {
		wrote(t, g, x)
	}
	for _, a := range samples {
		for _, b := range samples {
			l := [4][]api.Entry{roomy(a), roomy(b), roomy(a), roomy(b)}
			was := [4][]api.Entry{}
			for i := range l {
				was[i] = slices.Clone(l[i][:cap(l[i])])
			}
			ghost.Twins(l[0], l[1], 2, 1)
			ghost.Judge(l[0], l[1], l[2], l[3], config(2, 1), 0)
			ghost.Judge(l[0], l[1], l[2], l[3], config(0, 1), 0)
			for node := range allNodes + 1 {
				g.Sees(node, l[node%4])
			}
			for i := range l {
				if !slices.Equal(l[i][:cap(l[i])], was[i]) {
					t.Fatalf("%s, %s: the list %d is changed", short(a), short(b), i)
				}
			}
		}
	}
}

// R3: a list that was seen is not kept: changed afterwards, it changes neither what is held nor what moves back.
func TestSeenIsNotKept(t *testing.T) {
	for _, l := range sampleMaps() {
		g := ghost.New()
		wrote(t, g, l...)
		own := roomy(l)
		for node := range allNodes {
			sees(t, g, node, own, "", api.OK)
		}
		spoil(own)
		for node := range allNodes {
			holds(t, g, node, l)
			sees(t, g, node, l, "", api.OK)
			if len(l) > 0 {
				sees(t, g, node, l[1:], l[0].Key, api.ErrBack)
			}
		}
	}
}

// R3: a list that was refused is not kept either.
func TestRefusedIsNotKept(t *testing.T) {
	g := ghost.New()
	wrote(t, g, at("a", 5))
	sees(t, g, 1, list(at("a", 5)), "", api.OK)
	for _, l := range [][]api.Entry{list(at("a", 4)), list(at("a", 5), at("b", 1)), list(none)} {
		own := roomy(l)
		g.Sees(1, own)
		spoil(own)
		holds(t, g, 1, list(at("a", 5)))
	}
}

// R3: what Held tells is the caller's, with its spare room, each time anew.
func TestHeldIsNew(t *testing.T) {
	for _, l := range sampleMaps() {
		g := ghost.New()
		wrote(t, g, l...)
		own := roomy(l)
		sees(t, g, 2, own, "", api.OK)
		sees(t, g, 5, own, "", api.OK)
		first, second, other := g.Held(2), g.Held(2), g.Held(5)
		spoil(first)
		if !slices.Equal(second, l) || !slices.Equal(other, l) || !slices.Equal(own, l) {
			t.Fatalf("%s: what Held told was changed, and something else with it", short(l))
		}
		holds(t, g, 2, l)
		_ = append(g.Held(2), at("zz", 1))
		_ = append(second, at("zz", 2))
		spoil(other)
		holds(t, g, 2, l)
		holds(t, g, 5, l)
		sees(t, g, 2, l, "", api.OK)
		if len(l) > 0 {
			sees(t, g, 2, nil, l[0].Key, api.ErrBack)
		}
	}
}

// R3: what Held told is handed in again, to this node, to another one and to another ghost, and written over.
func TestHeldIsHandedIn(t *testing.T) {
	l := under(oddKeys(), 0)
	g, h := ghost.New(), ghost.New()
	wrote(t, g, l...)
	wrote(t, h, l...)
	sees(t, g, 0, l, "", api.OK)
	again := g.Held(0)
	sees(t, g, 0, again, "", api.OK)
	sees(t, g, 1, again, "", api.OK)
	sees(t, h, 0, again, "", api.OK)
	spoil(again)
	holds(t, g, 0, l)
	holds(t, g, 1, l)
	holds(t, h, 0, l)
}

// R3: what Held told stays as it was, whatever the node holds since.
func TestHeldStays(t *testing.T) {
	g := ghost.New()
	wrote(t, g, at("a", 1), at("a", 2), at("b", 1))
	sees(t, g, 0, list(at("a", 1), at("b", 1)), "", api.OK)
	was := g.Held(0)
	sees(t, g, 0, list(at("a", 2), at("b", 1)), "", api.OK)
	if !slices.Equal(was, list(at("a", 1), at("b", 1))) {
		t.Error(was)
	}
}

// R3: two ghosts have nothing in common.
func TestGhostsAreApart(t *testing.T) {
	g, h := ghost.New(), ghost.New()
	l := under(oddKeys(), 0)
	wrote(t, g, l...)
	for node := range allNodes {
		sees(t, g, node, l, "", api.OK)
	}
	for node := range allNodes {
		holds(t, h, node, nil)
		sees(t, h, node, l, l[0].Key, api.ErrForged)
	}
	for i, x := range l {
		if h.Written(x) {
			t.Errorf("%s is written", quoted(x))
		}
		wrote(t, h, others(x)[i%2])
	}
	for _, x := range l {
		if !g.Written(x) || h.Written(x) {
			t.Errorf("%s: %t, %t", quoted(x), g.Written(x), h.Written(x))
		}
	}
	for node := range allNodes {
		sees(t, h, node, nil, "", api.OK)
		holds(t, g, node, l)
	}
}

// R5: asked again Twins and Judge answer the same, whatever ghosts are told meanwhile.
func TestOneAnswer(t *testing.T) {
	for n := 2; n < 60; n += 7 {
		a, b, want := partly(n, n/2, 3)
		g := ghost.New()
		for range 3 {
			isTold(t, a, b, 3, 1, want)
			isJudged(t, a, b, a, b, config(3, 1), 1, twinsOver(want))
			g.Wrote(a[0])
			g.Sees(0, a)
		}
	}
}
