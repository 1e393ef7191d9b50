package merge_test

import (
	"maps"
	"slices"
	"testing"

	"tideline/api"
	"tideline/merge"
)

// A second reading of the words, by maps of the language, key by key.

func byKey(l []api.Entry) map[string]api.Entry {
	m := map[string]api.Entry{}
	for _, e := range l {
		m[e.Key] = e
	}
	return m
}

func keysOfEither(a, b []api.Entry) []string {
	m := byKey(a)
	maps.Copy(m, byKey(b))
	return slices.Sorted(maps.Keys(m))
}

func plainBoth(a, b []api.Entry) []pair {
	inA, inB := byKey(a), byKey(b)
	var l []pair
	for _, key := range keysOfEither(a, b) {
		var p pair
		if e, is := inA[key]; is {
			p.ofA = e
		}
		if e, is := inB[key]; is {
			p.ofB = e
		}
		l = append(l, p)
	}
	return l
}

func isNewer(v, w api.Version) bool {
	return v.Counter > w.Counter || v.Counter == w.Counter && v.Node > w.Node
}

func plainMax(a, b []api.Entry) []api.Entry {
	inA, inB := byKey(a), byKey(b)
	var l []api.Entry
	for _, key := range keysOfEither(a, b) {
		ofA, isA := inA[key]
		ofB, isB := inB[key]
		if !isA || isB && isNewer(ofB.Version, ofA.Version) {
			l = append(l, ofB)
		} else {
			l = append(l, ofA)
		}
	}
	return l
}

func plainDiffer(a, b []api.Entry) []string {
	inA, inB := byKey(a), byKey(b)
	var l []string
	for _, key := range keysOfEither(a, b) {
		ofA, isA := inA[key]
		ofB, isB := inB[key]
		if isA != isB || ofA.Version.Counter != ofB.Version.Counter || ofA.Version.Node != ofB.Version.Node {
			l = append(l, key)
		}
	}
	return l
}

func plainLacks(mine, theirs []api.Entry) []api.Entry {
	others := byKey(theirs)
	var l []api.Entry
	for _, e := range mine {
		if other, is := others[e.Key]; !is || isNewer(e.Version, other.Version) {
			l = append(l, e)
		}
	}
	return l
}

func plainIn(l []api.Entry, r api.Range) []api.Entry {
	var within []api.Entry
	for _, e := range l {
		if e.Key >= r.Lo && (r.Open || e.Key < r.Hi) {
			within = append(within, e)
		}
	}
	return within
}

// sameOfTwo holds all that is told of two maps against the second reading.
func sameOfTwo(t *testing.T, a, b []api.Entry) {
	t.Helper()
	if got := gone(merge.Both(a, b)); !slices.Equal(got, plainBoth(a, b)) {
		t.Errorf("Both(%s, %s): %v, want %v", short(a), short(b), got, plainBoth(a, b))
	}
	if got, e := merge.Max(a, b); e != api.OK || !slices.Equal(got, plainMax(a, b)) {
		t.Errorf("Max(%s, %s): %v, %d, want %v", short(a), short(b), got, e, plainMax(a, b))
	}
	if got, e := merge.Differ(a, b); e != api.OK || !slices.Equal(got, plainDiffer(a, b)) {
		t.Errorf("Differ(%s, %s): %q, %d, want %q", short(a), short(b), got, e, plainDiffer(a, b))
	}
	if got, e := merge.Lacks(a, b); e != api.OK || !slices.Equal(got, plainLacks(a, b)) {
		t.Errorf("Lacks(%s, %s): %v, %d, want %v", short(a), short(b), got, e, plainLacks(a, b))
	}
	if got, e := merge.Above(a, b); e != api.OK || got != (len(plainLacks(b, a)) == 0) {
		t.Errorf("Above(%s, %s): %t, %d; a lacks %v", short(a), short(b), got, e, plainLacks(b, a))
	}
}

// P9.2 to P9.6: maps of all sorts, each with each, with itself too.
func TestSampleMapsSideBySide(t *testing.T) {
	for _, a := range sampleMaps() {
		for _, b := range sampleMaps() {
			sameOfTwo(t, a, b)
		}
		sameOfTwo(t, a, a)
	}
}

// P9.2 to P9.6: all pairs of maps over three keys, with versions that differ in the Counter, in the Node alone, and such as don't, of unlike values or Dead.
func TestAllSmallMapsSideBySide(t *testing.T) {
	small := mapsOver([]string{"", "a", "ab"}, entry("", 2, 0, "x"), entry("", 2, 0, "y"), dead("", 2, 0), dead("", 2, 1), entry("", 3, 0, ""))
	for _, a := range small {
		for _, b := range small {
			sameOfTwo(t, a, b)
		}
		if t.Failed() {
			return
		}
	}
}
