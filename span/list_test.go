package span_test

import (
	"slices"
	"testing"

	"tideline/api"
	"tideline/span"
)

// P2.6
func TestRising(t *testing.T) {
	for _, l := range [][]api.Range{
		nil,
		{},
		{rng("a", "b")},
		{span.Whole()},
		{rng("a", "b"), rng("b", "c")},
		{rng("a", "b"), rng("c", "d")},
		{rng("", "\x00"), rng("\x00", "a"), rng("b", "c"), from("c")},
		{rng("a", "b"), from("z")},
		{rng("a", highest), from(highest)},
	} {
		if !span.Rising(l) {
			t.Errorf("Rising(%#v): false", l)
		}
	}
}

// P2.6
func TestNotRising(t *testing.T) {
	for _, l := range [][]api.Range{
		// Empty ones.
		{rng("a", "a")},
		{rng("", "")},
		{rng("a", "b"), rng("b", "b")},
		{rng("a", "a"), rng("b", "c")},
		{rng("a", "b"), rng("c", "c"), rng("d", "e")},
		// Those that may not be.
		{rng("b", "a")},
		{openTo("a", "b")},
		{from(tooLong)},
		{rng("a", tooLong)},
		{rng("a", "b"), rng("d", "c")},
		{rng("a", "b"), openTo("b", "c")},
		{rng("a", "b"), rng("b", tooLong), from("z")},
		// Those that begin below the end of the one ahead.
		{rng("a", "c"), rng("b", "d")},
		{rng("a", "b"), rng("a", "b")},
		{rng("b", "c"), rng("a", "b")},
		{rng("a", "b\x00"), rng("b", "c")},
		{rng("a", "b"), rng("b", "c"), rng("b", "d")},
		{rng("a", "b"), rng("c", "d"), rng("b", "c")},
		{rng("a", "c"), from("b")},
		// Those behind an Open one.
		{from("a"), rng("b", "c")},
		{from("a"), from("b")},
		{span.Whole(), span.Whole()},
		{rng("a", "b"), from("c"), rng("x", "y")},
	} {
		if span.Rising(l) {
			t.Errorf("Rising(%#v): true", l)
		}
	}
}

// P2.6
func TestTile(t *testing.T) {
	for _, x := range []struct {
		l []api.Range
		r api.Range
	}{
		{[]api.Range{rng("a", "b")}, rng("a", "b")},
		{[]api.Range{span.Whole()}, span.Whole()},
		{[]api.Range{rng("a", "b"), rng("b", "c")}, rng("a", "c")},
		{[]api.Range{rng("", "f"), rng("f", "m"), from("m")}, span.Whole()},
		{[]api.Range{rng("a", "b"), rng("b", "b\x00"), rng("b\x00", "c"), from("c")}, from("a")},
		// r's Hi is not looked at where both are Open.
		{[]api.Range{rng("a", "b"), from("b")}, openTo("a", "z")},
		{[]api.Range{from("a")}, openTo("a", tooLong)},
	} {
		if !span.Tile(x.l, x.r) {
			t.Errorf("Tile(%#v, %#v): false", x.l, x.r)
		}
	}
}

// P2.6
func TestNoTile(t *testing.T) {
	for _, x := range []struct {
		l []api.Range
		r api.Range
	}{
		{nil, span.Whole()},
		{nil, rng("a", "a")},
		{nil, rng("b", "a")},
		{[]api.Range{}, rng("", "")},
		// Another beginning.
		{[]api.Range{rng("a", "c")}, rng("b", "c")},
		{[]api.Range{rng("b", "c")}, rng("a", "c")},
		{[]api.Range{from("a")}, span.Whole()},
		// Another end.
		{[]api.Range{rng("a", "c")}, rng("a", "d")},
		{[]api.Range{rng("a", "d")}, rng("a", "c")},
		{[]api.Range{rng("a", "c")}, from("a")},
		{[]api.Range{from("a")}, rng("a", "c")},
		{[]api.Range{from("a")}, rng("a", "")},
		{[]api.Range{rng("a", "c")}, openTo("a", "c")},
		{[]api.Range{rng("", "f"), rng("f", "m")}, span.Whole()},
		// Gaps.
		{[]api.Range{rng("a", "b"), rng("c", "d")}, rng("a", "d")},
		{[]api.Range{rng("a", "b"), rng("b\x00", "d")}, rng("a", "d")},
		{[]api.Range{rng("a", "b"), rng("b", "c"), from("d")}, from("a")},
		// Lists that do not rise.
		{[]api.Range{rng("a", "c"), rng("b", "d")}, rng("a", "d")},
		{[]api.Range{rng("a", "b"), rng("b", "b"), rng("b", "c")}, rng("a", "c")},
		{[]api.Range{rng("a", "a")}, rng("a", "a")},
		{[]api.Range{rng("", "")}, rng("", "")},
		{[]api.Range{rng("a", "c"), rng("c", "b")}, rng("a", "b")},
		{[]api.Range{rng("b", "a")}, rng("b", "a")},
		{[]api.Range{openTo("a", "b")}, openTo("a", "b")},
		{[]api.Range{openTo("a", "b"), rng("b", "c")}, rng("a", "c")},
		{[]api.Range{from("a"), rng("", "c")}, rng("a", "c")},
		{[]api.Range{span.Whole(), span.Whole()}, span.Whole()},
		{[]api.Range{rng("a", tooLong), rng(tooLong, "z")}, rng("a", "z")},
	} {
		if span.Tile(x.l, x.r) {
			t.Errorf("Tile(%#v, %#v): true", x.l, x.r)
		}
	}
}

func rise(l []api.Range) bool {
	for i, r := range l {
		if sampleSet(r) == [10]bool{} {
			return false
		}
		if i > 0 && (l[i-1].Open || below(r.Lo, l[i-1].Hi)) {
			return false
		}
	}
	return true
}

// P2.6, P2.8
func TestPairsOfAllSamples(t *testing.T) {
	for _, a := range sampleRanges() {
		for _, b := range sampleRanges() {
			l := []api.Range{a, b}
			if is := span.Rising(l); is != rise(l) {
				t.Fatalf("Rising(%#v): %t", l, is)
			}
			r := api.Range{Lo: a.Lo, Hi: b.Hi, Open: b.Open}
			is := span.Tile(l, r)
			if is != (rise(l) && a.Hi == b.Lo) {
				t.Fatalf("Tile(%#v, %#v): %t", l, r, is)
			}
			if is {
				holdsOnce(t, r, l)
			}
		}
	}
}

// R3
func TestListsStay(t *testing.T) {
	room := []api.Range{rng("a", "b"), rng("b", "c"), rng("q", "p")}
	was := slices.Clone(room)
	if !span.Rising(room[:2]) || !span.Tile(room[:2], rng("a", "c")) {
		t.Error("what lies behind a list's length counts")
	}
	if !slices.Equal(room, was) {
		t.Errorf("the list is %#v now", room)
	}
}
