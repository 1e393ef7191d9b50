package merge_test

import (
	"slices"
	"testing"

	"tideline/api"
	"tideline/merge"
)

// calls are all calls that tell a list of entries; those of one list take the first one.
func calls() map[string]func(a, b []api.Entry) []api.Entry {
	return map[string]func(a, b []api.Entry) []api.Entry{
		"Max":           func(a, b []api.Entry) []api.Entry { l, _ := merge.Max(a, b); return l },
		"Lacks":         func(a, b []api.Entry) []api.Entry { l, _ := merge.Lacks(a, b); return l },
		"In":            func(a, b []api.Entry) []api.Entry { l, _ := merge.In(a, whole()); return l },
		"In from":       func(a, b []api.Entry) []api.Entry { l, _ := merge.In(a, from("a")); return l },
		"In of nothing": func(a, b []api.Entry) []api.Entry { l, _ := merge.In(a, rng("x", "x")); return l },
	}
}

func memorySamples() [][]api.Entry {
	return [][]api.Entry{nil, list(at("a", 1)), list(at("a", 2), at("b", 1)), entriesOf(oddKeys(), 0), entriesOf(oddKeys(), 30), entriesOf(numbered(most+1), 0)}
}

// R3: nothing that is handed in is changed, nor what lies behind its length.
func TestHandedInStays(t *testing.T) {
	everything := func(a, b []api.Entry) {
		merge.Check(a)
		for range merge.Both(a, b) {
		}
		merge.Max(a, b)
		merge.Differ(a, b)
		merge.Lacks(a, b)
		merge.Above(a, b)
		merge.In(a, whole())
		merge.In(b, rng("a", "b"))
	}
	samples := append(memorySamples(), list(none), list(at("b", 1), at("a", 1)))
	for _, a := range samples {
		for _, b := range samples {
			a, b := roomy(a), roomy(b)
			wasA, wasB := slices.Clone(a[:cap(a)]), slices.Clone(b[:cap(b)])
			everything(a, b)
			if !slices.Equal(a[:cap(a)], wasA) || !slices.Equal(b[:cap(b)], wasB) {
				t.Fatalf("%s, %s: changed", short(wasA), short(wasB))
			}
		}
	}
}

// R3: an answer and what was handed in have no memory in common, with their spare room.
func TestAnswersAreNew(t *testing.T) {
	for name, call := range calls() {
		for _, a := range memorySamples() {
			for _, b := range memorySamples() {
				a, b := roomy(a), roomy(b)
				wasA, wasB := slices.Clone(a[:cap(a)]), slices.Clone(b[:cap(b)])
				got := call(a, b)
				want := slices.Clone(got)
				spoil(a, entry("changed", 1, 1, ""))
				spoil(b, entry("changed", 1, 1, ""))
				if !slices.Equal(got, want) {
					t.Fatalf("%s(%s, %s): what was handed in is kept", name, short(wasA), short(wasB))
				}
				copy(a[:cap(a)], wasA)
				copy(b[:cap(b)], wasB)
				spoil(got, entry("spoilt", 2, 2, ""))
				if !slices.Equal(a[:cap(a)], wasA) || !slices.Equal(b[:cap(b)], wasB) {
					t.Fatalf("%s(%s, %s): what was handed in is handed out", name, short(wasA), short(wasB))
				}
			}
		}
	}
}

// R3, R5: asked twice the answer is the same, in other memory.
func TestAnswersAreApart(t *testing.T) {
	for name, call := range calls() {
		for _, a := range memorySamples() {
			for _, b := range memorySamples() {
				first := call(a, b)
				want := slices.Clone(first)
				second := call(a, b)
				spoil(first, entry("spoilt", 2, 2, ""))
				if third := call(a, b); !slices.Equal(second, want) || !slices.Equal(third, want) {
					t.Fatalf("%s(%s, %s): %v, then %v, want %v", name, short(a), short(b), second, third, want)
				}
			}
		}
	}
}

// R3, R5: likewise of the keys that Differ tells.
func TestDifferIsApart(t *testing.T) {
	a, b := entriesOf(oddKeys(), 0), entriesOf(eachOf(oddKeys(), 0, 3), 5)
	first, _ := merge.Differ(a, b)
	want := slices.Clone(first)
	second, _ := merge.Differ(a, b)
	spoil(first, "spoilt")
	if third, _ := merge.Differ(a, b); !slices.Equal(second, want) || !slices.Equal(third, want) {
		t.Errorf("Differ: %q, then %q, want %q", second, third, want)
	}
}

// R3: one list on both sides, and lists that share their memory.
func TestListsThatShare(t *testing.T) {
	l := entriesOf(oddKeys(), 0)
	for i := range l {
		for j := range l {
			sameOfTwo(t, l[:i], l[j:])
			sameOfTwo(t, l[j:], l[:i])
		}
	}
}
