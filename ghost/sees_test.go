package ghost_test

import (
	"math/rand/v2"
	"slices"
	"testing"

	"tideline/api"
	"tideline/ghost"
)

// P19.2: the chapter's examples.
func TestSeesExamples(t *testing.T) {
	g := ghost.New()
	a1, a2, b1 := at("a", 1), at("a", 2), at("b", 1)
	wrote(t, g, a1, a2)
	sees(t, g, 0, list(a2), "", api.OK)
	sees(t, g, 0, list(a1), "a", api.ErrBack)
	sees(t, g, 0, nil, "a", api.ErrBack)
	holds(t, g, 0, list(a2))
	sees(t, g, 1, list(b1), "b", api.ErrForged)
	sees(t, g, 9, nil, "", api.ErrArg)
	sees(t, g, 1, list(a2, a1), "", api.ErrOrder)
	holds(t, g, 1, nil)
}

// P19.2: each node is seen for itself, from node 0 to the last one; what one holds is nothing to another one.
func TestNodesAreSeenApart(t *testing.T) {
	g := ghost.New()
	all := under(oddKeys(), 0)
	wrote(t, g, all...)
	for node := range allNodes {
		for other := range allNodes {
			want := []api.Entry(nil)
			if other < node {
				want = all[other:]
			}
			holds(t, g, other, want)
		}
		sees(t, g, node, all[node:], "", api.OK)
	}
	for node := range allNodes {
		sees(t, g, node, all[node+1:], all[node].Key, api.ErrBack)
		sees(t, g, node, all, "", api.OK)
	}
}

// P19.2: a node that was never seen, or held nothing, may hold whatever was written, nothing too; one that was seen may hold the same again, more, and newer.
func TestMapsMoveUp(t *testing.T) {
	g := ghost.New()
	old, more := under(oddKeys(), 0), under(oddKeys(), 100)
	wrote(t, g, old...)
	wrote(t, g, more...)
	var now []api.Entry
	sees(t, g, 3, now, "", api.OK)
	sees(t, g, 3, now, "", api.OK)
	for _, i := range rand.New(rand.NewPCG(19, 2)).Perm(len(old)) {
		now = rising(append(now, old[i])...)
		sees(t, g, 3, now, "", api.OK)
		sees(t, g, 3, now, "", api.OK)
	}
	for i := range now {
		now = slices.Clone(now)
		now[i] = more[i]
		sees(t, g, 3, now, "", api.OK)
		sees(t, g, 3, now, "", api.OK)
	}
}

// P19.2: an entry is newer by its Counter first, then by its Node; what it is besides is not asked: a dead one may come, and give way.
func TestWhatIsNewer(t *testing.T) {
	rising := list(entry("k", 1, 0, "first"), dead("k", 1, 1), entry("k", 1, 7, "third"), entry("k", 2, 0, ""), dead("k", 3, 6), dead("k", 3, 7), entry("k", greatest, 0, "z"), entry("k", greatest, 7, "a"))
	for i, was := range rising {
		for j, now := range rising {
			g := ghost.New()
			wrote(t, g, rising...)
			sees(t, g, 0, list(was), "", api.OK)
			if i > j {
				sees(t, g, 0, list(now), "k", api.ErrBack)
			} else {
				sees(t, g, 0, list(now), "", api.OK)
			}
		}
	}
}

// P19.2: at each place of a map an entry that is gone, or older, is told by its key; so is one that nobody wrote, whatever is unlike in it.
func TestEachPlaceOfAMap(t *testing.T) {
	was, older, newer := under(oddKeys(), 50), under(oddKeys(), 0), under(oddKeys(), 100)
	g := ghost.New()
	wrote(t, g, was...)
	wrote(t, g, older...)
	wrote(t, g, newer[:9]...)
	sees(t, g, 5, was, "", api.OK)
	for i, x := range was {
		sees(t, g, 5, slices.Delete(slices.Clone(was), i, i+1), x.Key, api.ErrBack)
		l := slices.Clone(was)
		l[i] = older[i]
		sees(t, g, 5, l, x.Key, api.ErrBack)
		for _, other := range others(x) {
			l[i] = other
			sees(t, g, 5, l, x.Key, api.ErrForged)
		}
		if i >= 9 {
			l[i] = newer[i]
			sees(t, g, 5, l, x.Key, api.ErrForged)
		}
	}
	for _, key := range []string{"\x00\x00\x00", "B", "aaa", "z", highest[:15]} {
		sees(t, g, 5, rising(append(slices.Clone(was), at(key, 1))...), key, api.ErrForged)
	}
	sees(t, g, 5, was, "", api.OK)
}

// P19.2: under one key an older entry that nobody wrote either moves back, and is told so.
func TestBackAheadOfForged(t *testing.T) {
	g := ghost.New()
	wrote(t, g, entry("k", 5, 3, "k"))
	sees(t, g, 0, list(entry("k", 5, 3, "k")), "", api.OK)
	for _, x := range list(entry("k", 5, 2, "k"), entry("k", 4, 3, "k"), dead("k", 4, 7)) {
		sees(t, g, 0, list(x), "k", api.ErrBack)
		sees(t, g, 1, list(x), "k", api.ErrForged)
	}
	for _, x := range list(entry("k", 5, 3, "l"), dead("k", 5, 3), entry("k", 5, 4, "k"), entry("k", 6, 0, "k")) {
		sees(t, g, 0, list(x), "k", api.ErrForged)
	}
}

// P19.2: of several keys with which something is wrong the lowest one is told, of whichever kind.
func TestLowestKeyIsTold(t *testing.T) {
	keys := []string{"", "a", "ab", "b", "c"}
	var was, older, newer, forged []api.Entry
	for _, key := range keys {
		was = append(was, entry(key, 5, 1, ""))
		older = append(older, entry(key, 4, 1, ""))
		newer = append(newer, entry(key, 6, 1, ""))
		forged = append(forged, entry(key, 7, 1, ""))
	}
	g, p := ghost.New(), &plain{}
	for _, l := range [][]api.Entry{was, older, newer} {
		wrote(t, g, l...)
		p.writes = append(p.writes, l...)
	}
	kinds := [][]api.Entry{was, older, newer, forged, nil}
	var back, forge int
	for n := range 5 * 5 * 5 * 5 * 5 {
		var l []api.Entry
		for i, rest := 0, n; i < len(keys); i, rest = i+1, rest/5 {
			if kind := kinds[rest%5]; kind != nil {
				l = append(l, kind[i])
			}
		}
		also := *p
		also.seen = map[int][][]api.Entry{4: {was}}
		key, wrong := also.sees(4, l)
		if n == 0 {
			sees(t, g, 4, was, "", api.OK)
		}
		if wrong == api.OK {
			continue
		}
		sees(t, g, 4, l, key, wrong)
		if wrong == api.ErrBack {
			back++
		} else {
			forge++
		}
	}
	holds(t, g, 4, was)
	if back < 1000 || forge < 400 {
		t.Errorf("%d moved back, %d were forged", back, forge)
	}
}

// P19.2: what a node held behind an error is what it held ahead of it, for all that is asked since.
func TestErrorsChangeNothing(t *testing.T) {
	g := ghost.New()
	a5, b5, c1 := at("a", 5), at("b", 5), at("c", 1)
	wrote(t, g, at("a", 4), a5, at("a", 6), b5)
	sees(t, g, 2, list(a5), "", api.OK)
	sees(t, g, 2, list(at("a", 6), b5, c1), "c", api.ErrForged)
	sees(t, g, 2, list(b5), "a", api.ErrBack)
	sees(t, g, 2, list(at("a", 6), none), "", api.ErrVersion)
	sees(t, g, 2, list(b5, a5), "", api.ErrOrder)
	// Had any of these been kept, this would move back.
	sees(t, g, 2, list(a5), "", api.OK)
	wrote(t, g, c1)
	sees(t, g, 2, list(at("a", 6), b5, c1), "", api.OK)
	sees(t, g, 2, list(a5), "a", api.ErrBack)
}

// P19.2: what was seen is not written by that; what is written later may be held then.
func TestSeenIsNotWritten(t *testing.T) {
	g := ghost.New()
	sees(t, g, 0, list(at("a", 1)), "a", api.ErrForged)
	if g.Written(at("a", 1)) {
		t.Error("written")
	}
	sees(t, g, 0, list(at("a", 1)), "a", api.ErrForged)
	sees(t, g, 1, list(at("a", 1)), "a", api.ErrForged)
	wrote(t, g, at("a", 1))
	sees(t, g, 0, list(at("a", 1)), "", api.OK)
	sees(t, g, 1, nil, "", api.OK)
}

// P19.2: a node may hold more than MaxItems entries here.
func TestGreatMapsAreSeen(t *testing.T) {
	g := ghost.New()
	all := many(1000)
	wrote(t, g, all...)
	for _, n := range []int{0, 1, most - 1, most, most + 1, 1000, 1000} {
		sees(t, g, 6, all[:n], "", api.OK)
	}
	sees(t, g, 6, all[:most], all[most].Key, api.ErrBack)
	sees(t, g, 6, all[1:], all[0].Key, api.ErrBack)
	sees(t, g, 6, append(slices.Clone(all), at("z", 1)), "z", api.ErrForged)
}

// P19.2: Held of what is no node is nothing, also when all nodes were seen.
func TestHeldOfNoNode(t *testing.T) {
	g := ghost.New()
	wrote(t, g, at("a", 1))
	for node := range allNodes {
		sees(t, g, node, list(at("a", 1)), "", api.OK)
	}
	for _, node := range outside(0, allNodes-1) {
		holds(t, g, node, nil)
		sees(t, g, node, list(at("a", 1)), "", api.ErrArg)
	}
}
