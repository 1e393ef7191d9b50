package merge_test

import (
	"math/rand/v2"
	"slices"
	"testing"

	"tideline/api"
	"tideline/merge"
)

func maxOf(t *testing.T, a, b []api.Entry) []api.Entry {
	t.Helper()
	l, e := merge.Max(a, b)
	if e != api.OK {
		t.Fatalf("Max(%s, %s): %d", short(a), short(b), e)
	}
	return l
}

func lacksOf(t *testing.T, mine, theirs []api.Entry) []api.Entry {
	t.Helper()
	l, e := merge.Lacks(mine, theirs)
	if e != api.OK {
		t.Fatalf("Lacks(%s, %s): %d", short(mine), short(theirs), e)
	}
	return l
}

func differOf(t *testing.T, a, b []api.Entry) []string {
	t.Helper()
	l, e := merge.Differ(a, b)
	if e != api.OK {
		t.Fatalf("Differ(%s, %s): %d", short(a), short(b), e)
	}
	return l
}

func inOf(t *testing.T, l []api.Entry, r api.Range) []api.Entry {
	t.Helper()
	within, e := merge.In(l, r)
	if e != api.OK {
		t.Fatalf("In(%s, %#v): %d", short(l), r, e)
	}
	return within
}

func mustBeAbove(t *testing.T, a, b []api.Entry) {
	t.Helper()
	if is, e := merge.Above(a, b); e != api.OK || !is {
		t.Fatalf("Above(%s, %s): %t, %d", short(a), short(b), is, e)
	}
}

func mustBeSame(t *testing.T, what string, got, want []api.Entry) {
	t.Helper()
	if !slices.Equal(got, want) {
		t.Fatalf("%s: %s and %s", what, short(got), short(want))
	}
}

// followsOfTwo holds what P9.8 says of two maps.
func followsOfTwo(t *testing.T, a, b []api.Entry, ranges []api.Range) {
	t.Helper()
	both := maxOf(t, a, b)
	if e := merge.Check(both); e != api.OK {
		t.Fatalf("Max(%s, %s) is no map: %d", short(a), short(b), e)
	}
	mustBeSame(t, "Max, turned round", maxOf(t, b, a), both)
	mustBeSame(t, "Max of one map twice", maxOf(t, a, a), a)
	mustBeAbove(t, both, a)
	mustBeAbove(t, both, b)
	mustBeSame(t, "what is lacking, taken", maxOf(t, a, lacksOf(t, b, a)), maxOf(t, a, b))
	keys := append(keysOf(lacksOf(t, a, b)), keysOf(lacksOf(t, b, a))...)
	slices.Sort(keys)
	if got := differOf(t, a, b); !slices.Equal(got, keys) {
		t.Fatalf("Differ(%s, %s): %q; lacking are %q", short(a), short(b), got, keys)
	}
	for _, r := range ranges {
		mustBeSame(t, "what is in a range of both", inOf(t, both, r), maxOf(t, inOf(t, a, r), inOf(t, b, r)))
	}
}

func groupings(t *testing.T, a, b, c []api.Entry) {
	t.Helper()
	left, right := maxOf(t, maxOf(t, a, b), c), maxOf(t, a, maxOf(t, b, c))
	if !slices.Equal(left, right) {
		t.Fatalf("Max of %s, %s, %s: %s and %s", short(a), short(b), short(c), short(left), short(right))
	}
}

// consistentMaps are all maps over three keys with three versions each, of one version always the same entry.
func consistentMaps() [][]api.Entry {
	return mapsOver([]string{"", "a", "ab"}, entry("", 2, 0, "x"), dead("", 2, 1), entry("", 3, 0, ""))
}

// P9.8: all pairs of small maps, over all ranges between their keys.
func TestFollowsOfSmallMaps(t *testing.T) {
	ranges := someRanges([]string{"", "a", "ab", "b"})
	for _, a := range consistentMaps() {
		for _, b := range consistentMaps() {
			followsOfTwo(t, a, b, ranges)
		}
	}
}

// P9.8: all groupings of three small maps.
func TestGroupingsOfSmallMaps(t *testing.T) {
	small := consistentMaps()
	for _, a := range small {
		for _, b := range small {
			for _, c := range small {
				groupings(t, a, b, c)
			}
		}
	}
}

// P9.8: greater maps, by chance, more than MaxItems entries too.
func TestFollowsOfGreaterMaps(t *testing.T) {
	rnd := rand.New(rand.NewPCG(9, 8))
	many := numbered(600)
	for _, keys := range [][]string{oddKeys(), many[:most], many} {
		ranges := someRanges(eachOf(keys, len(keys)/5, len(keys)/4))
		for range 60 {
			a, b, c := someMap(rnd, keys), someMap(rnd, keys), someMap(rnd, keys)
			sameOfTwo(t, a, b)
			followsOfTwo(t, a, b, ranges)
			groupings(t, a, b, c)
		}
	}
}

// P9.8: Max of several maps in any order is the same map.
func TestMaxInAnyOrder(t *testing.T) {
	rnd := rand.New(rand.NewPCG(98, 1))
	for range 40 {
		var l [][]api.Entry
		for range 6 {
			l = append(l, someMap(rnd, oddKeys()))
		}
		var want []api.Entry
		for round := range 10 {
			var newest []api.Entry
			for _, m := range l {
				newest = maxOf(t, newest, m)
			}
			if round == 0 {
				want = newest
			}
			mustBeSame(t, "Max of six maps in another order", newest, want)
			rnd.Shuffle(len(l), func(i, j int) { l[i], l[j] = l[j], l[i] })
		}
	}
}
