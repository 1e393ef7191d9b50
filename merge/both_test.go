package merge_test

import (
	"iter"
	"slices"
	"testing"

	"tideline/api"
	"tideline/merge"
)

var none api.Entry

// P9.2: the example, and the edges.
func TestBothExamples(t *testing.T) {
	a1, a2, b1, c3 := at("a", 1), at("a", 2), at("b", 1), at("c", 3)
	first, firstDead := entry("", 1, 0, ""), dead("", 1, 0)
	for _, x := range []struct {
		a, b []api.Entry
		want []pair
	}{
		{list(a1, c3), list(a2, b1), []pair{{a1, a2}, {none, b1}, {c3, none}}},
		{list(a2, b1), list(a1, c3), []pair{{a2, a1}, {b1, none}, {none, c3}}},
		{nil, nil, nil},
		{list(), list(), nil},
		{list(a1, c3), nil, []pair{{a1, none}, {c3, none}}},
		{nil, list(a1, c3), []pair{{none, a1}, {none, c3}}},
		{list(a1), list(a1), []pair{{a1, a1}}},
		{list(a1), list(b1), []pair{{a1, none}, {none, b1}}},
		{list(b1), list(a1), []pair{{none, a1}, {b1, none}}},
		{list(first), list(firstDead), []pair{{first, firstDead}}},
		{list(first, a1), list(firstDead, a1), []pair{{first, firstDead}, {a1, a1}}},
		{list(a1), list(first), []pair{{none, first}, {a1, none}}},
	} {
		if got := gone(merge.Both(x.a, x.b)); !slices.Equal(got, x.want) {
			t.Errorf("Both(%s, %s): %v, want %v", short(x.a), short(x.b), got, x.want)
		}
	}
}

// P9.2: what is no map, on either side, on both: nothing is given, not even what stands ahead of the fault.
func TestBothOfWrongLists(t *testing.T) {
	good := [][]api.Entry{nil, list(at("a", 1)), entriesOf(oddKeys(), 0), entriesOf(numbered(most+1), 0)}
	for _, w := range wrongLists() {
		for _, g := range good {
			nothing(t, w.name+", the first list", merge.Both(w.l, g))
			nothing(t, w.name+", the second list", merge.Both(g, w.l))
		}
		nothing(t, w.name+", both lists", merge.Both(w.l, w.l))
	}
}

func nothing(t *testing.T, name string, pairs iter.Seq2[api.Entry, api.Entry]) {
	t.Helper()
	if pairs == nil {
		t.Fatalf("Both, %s: nil", name)
	}
	if got := gone(pairs); len(got) != 0 {
		t.Errorf("Both, %s: %v", name, got)
	}
}

// R6: never nil, not even of no entries.
func TestBothIsThere(t *testing.T) {
	for _, l := range [][]api.Entry{nil, {}, list(at("a", 1)), {none}} {
		if merge.Both(l, nil) == nil || merge.Both(nil, l) == nil || merge.Both(l, l) == nil {
			t.Errorf("Both of %s: nil", short(l))
		}
	}
}

// kept is an iterator, the lists that were handed in for it, and what it was to give then.
type kept struct {
	a, b  []api.Entry
	pairs iter.Seq2[api.Entry, api.Entry]
	want  []pair
}

// keep hands in copies, so that they may be changed.
func keep(a, b []api.Entry) kept {
	a, b = roomy(a), roomy(b)
	return kept{a, b, merge.Both(a, b), plainBoth(a, b)}
}

func keepSamples() []kept {
	var l []kept
	odd := oddKeys()
	for _, a := range [][]api.Entry{nil, list(at("a", 1)), entriesOf(odd, 0), entriesOf(eachOf(odd, 0, 2), 4)} {
		for _, b := range [][]api.Entry{nil, list(at("ab", 1)), entriesOf(odd, 9), entriesOf(eachOf(odd, 1, 3), 2)} {
			l = append(l, keep(a, b))
		}
	}
	return append(l, keep(entriesOf(numbered(most+9), 0), entriesOf(eachOf(numbered(600), 0, 5), 3)))
}

func (k kept) goThrough(t *testing.T, what string) {
	t.Helper()
	if got := gone(k.pairs); !slices.Equal(got, k.want) {
		t.Fatalf("Both, %s: %v, want %v", what, got, k.want)
	}
}

// R6: asked for once, gone through later, and twice.
func TestBothTwice(t *testing.T) {
	samples := keepSamples()
	for range 3 {
		for _, k := range samples {
			k.goThrough(t, "kept")
		}
	}
}

// R6: what becomes of the lists between the call and the going through is not seen, nor what becomes of them between two goings through.
func TestBothOfListsChangedLater(t *testing.T) {
	for _, k := range keepSamples() {
		spoil(k.a, entry("zz", 77, 7, "changed"))
		k.goThrough(t, "the first list changed")
		spoil(k.b, none)
		k.goThrough(t, "the second list changed")
		spoil(k.a, at("", 1))
		k.goThrough(t, "changed again")
	}
}

// R6: whether the lists are maps is asked when the call is made, not later.
func TestBothOfListsMendedLater(t *testing.T) {
	l := list(at("b", 1), at("a", 1))
	first, second, both := merge.Both(l, nil), merge.Both(nil, l), merge.Both(l, l)
	l[0], l[1] = at("a", 1), at("b", 1)
	nothing(t, "the first list mended since", first)
	nothing(t, "the second list mended since", second)
	nothing(t, "both mended since", both)
}

// R6: what is done to the lists at each pair is not seen.
func TestBothOfListsChangedMeanwhile(t *testing.T) {
	for _, k := range keepSamples() {
		var got []pair
		for ofA, ofB := range k.pairs {
			got = append(got, pair{ofA, ofB})
			spoil(k.a, entry("changed", len(got), 0, ""))
			spoil(k.b, entry("other", len(got), 1, ""))
		}
		if !slices.Equal(got, k.want) {
			t.Fatalf("Both: %v, want %v", got, k.want)
		}
	}
}

// R6: left early, at each pair, by a break and by a return; then gone through from its beginning again.
func TestBothLeftEarly(t *testing.T) {
	for _, k := range keepSamples() {
		for stop := range k.want {
			var got []pair
			for ofA, ofB := range k.pairs {
				got = append(got, pair{ofA, ofB})
				if len(got) == stop+1 {
					break
				}
			}
			if !slices.Equal(got, k.want[:stop+1]) {
				t.Fatalf("Both, left at %d: %v, want %v", stop, got, k.want[:stop+1])
			}
			calls := 0
			k.pairs(func(api.Entry, api.Entry) bool {
				calls++
				return calls <= stop
			})
			if calls != stop+1 {
				t.Fatalf("Both: %d calls behind the one that wanted no more", calls-stop-1)
			}
		}
		k.goThrough(t, "behind that")
	}
}

// R6: within itself, to the end, and left early.
func TestBothWithinItself(t *testing.T) {
	for _, k := range keepSamples() {
		outer := 0
		for ofA, ofB := range k.pairs {
			if (pair{ofA, ofB}) != k.want[outer] {
				t.Fatalf("Both, outer pair %d: %v, %v, want %v", outer, ofA, ofB, k.want[outer])
			}
			k.goThrough(t, "within itself")
			for ofA, ofB := range k.pairs {
				if (pair{ofA, ofB}) != k.want[0] {
					t.Fatalf("Both, the first pair within pair %d: %v, %v", outer, ofA, ofB)
				}
				break
			}
			outer++
		}
		if outer != len(k.want) {
			t.Fatalf("Both: %d pairs, want %d", outer, len(k.want))
		}
	}
}
