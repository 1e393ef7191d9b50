package merge_test

import (
	"slices"
	"testing"

	"tideline/api"
	"tideline/merge"
)

// P9.7: the examples, borders that are keys themselves, and such as are none; dead entries count.
func TestIn(t *testing.T) {
	first, a, b, c := dead("", 5, 0), at("a", 1), at("b", 2), dead("c", 3, 7)
	l := list(first, a, b, c)
	for _, x := range []struct {
		r    api.Range
		want []api.Entry
	}{
		{whole(), l},
		{rng("b", "c"), list(b)},
		{rng("b", "c\x00"), list(b, c)},
		{rng("a", "c"), list(a, b)},
		{rng("a", "a\x00"), list(a)},
		{rng("a", "a"), nil},
		{rng("a\x00", "b"), nil},
		{rng("a\x00", "b\x00"), list(b)},
		{rng("", "\x00"), list(first)},
		{rng("", "a"), list(first)},
		{rng("", ""), nil},
		{rng("\x00", "a"), nil},
		{rng("", highest), l},
		{rng("x", "y"), nil},
		{from(""), l},
		{from("\x00"), list(a, b, c)},
		{from("a"), list(a, b, c)},
		{from("c"), list(c)},
		{from("c\x00"), nil},
		{from(highest), nil},
	} {
		if got, e := merge.In(l, x.r); e != api.OK || !slices.Equal(got, x.want) {
			t.Errorf("In(%s, %#v): %v, %d, want %v", short(l), x.r, got, e, x.want)
		}
	}
}

// P9.7: maps of all sorts, more than MaxItems entries too, over ranges of all sorts.
func TestInOfMany(t *testing.T) {
	ranges := append(someRanges(oddKeys()), someRanges(eachOf(numbered(1000), 100, 300))...)
	for _, l := range sampleMaps() {
		for _, r := range ranges {
			if got, e := merge.In(l, r); e != api.OK || !slices.Equal(got, plainIn(l, r)) {
				t.Fatalf("In(%s, %#v): %v, %d, want %v", short(l), r, got, e, plainIn(l, r))
			}
		}
	}
}

// P9.7: a range that may not be, also where there is nothing to look for.
func TestInOfWrongRanges(t *testing.T) {
	for r, want := range wrongRanges() {
		for _, l := range sampleMaps() {
			if got, e := merge.In(l, r); e != want || len(got) != 0 {
				t.Errorf("In(%s, %#v): %v, %d, want %d", short(l), r, got, e, want)
			}
		}
	}
}

// P9.7: the list's error comes first, whatever the range.
func TestInOfWrongLists(t *testing.T) {
	ranges := []api.Range{whole(), rng("", ""), rng("x", "y"), from("b")}
	for r := range wrongRanges() {
		ranges = append(ranges, r)
	}
	for _, w := range wrongLists() {
		for _, r := range ranges {
			if got, e := merge.In(w.l, r); e != w.want || len(got) != 0 {
				t.Errorf("In, %s, %#v: %v, %d, want %d", w.name, r, got, e, w.want)
			}
		}
	}
}
