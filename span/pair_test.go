package span_test

import (
	"testing"

	"tideline/api"
	"tideline/span"
)

// P2.3
func TestWithin(t *testing.T) {
	for _, x := range []struct {
		a, b api.Range
		want bool
	}{
		{rng("b", "c"), rng("a", "d"), true},
		{rng("b", "c"), rng("b", "c"), true},
		{rng("b", "c"), rng("b", "d"), true},
		{rng("b", "c"), rng("a", "c"), true},
		{rng("b", "c"), span.Whole(), true},
		{rng("b", "c"), from("b"), true},
		{from("c"), from("b"), true},
		{from("b"), from("b"), true},
		{span.Whole(), span.Whole(), true},

		{rng("b", "d"), rng("b", "c"), false},
		{rng("a", "c"), rng("b", "c"), false},
		{rng("a", "d"), rng("b", "c"), false},
		{rng("a", "b"), rng("b", "c"), false},
		{rng("b", "c"), from("b\x00"), false},
		{from("b"), from("c"), false},
		{from("b"), rng("a", "z"), false},
		{from(highest), rng("a", highest), false},
		{span.Whole(), rng("", highest), false},
		{rng("a", "b"), rng("a", "a"), false},
		{rng("", "a"), rng("", ""), false},

		// An empty one is within each that may be.
		{rng("b", "b"), rng("x", "y"), true},
		{rng("b", "b"), rng("a", "c"), true},
		{rng("b", "b"), rng("a", "a"), true},
		{rng("", ""), from("z"), true},
		{rng("", ""), rng("", ""), true},

		// One that may not be is within none, and none within it.
		{rng("b", "a"), span.Whole(), false},
		{rng("b", "a"), rng("b", "a"), false},
		{openTo("a", "b"), span.Whole(), false},
		{rng("a", tooLong), span.Whole(), false},
		{from(tooLong), span.Whole(), false},
		{rng("b", "b"), rng("z", "a"), false},
		{rng("b", "b"), openTo("a", "z"), false},
		{rng("b", "c"), openTo("a", "z"), false},
		{rng("b", "c"), rng("a", tooLong), false},
		{rng("b", "b"), from(tooLong), false},
	} {
		if is := span.Within(x.a, x.b); is != x.want {
			t.Errorf("Within(%#v, %#v): %t, want %t", x.a, x.b, is, x.want)
		}
	}
}

// P2.3
func TestWithinAllSamples(t *testing.T) {
	for _, a := range sampleRanges() {
		for _, b := range sampleRanges() {
			want := possible(a) && possible(b)
			inB := sampleSet(b)
			for i, inA := range sampleSet(a) {
				want = want && (!inA || inB[i])
			}
			if is := span.Within(a, b); is != want {
				t.Fatalf("Within(%#v, %#v): %t, want %t", a, b, is, want)
			}
		}
	}
}

// P2.4
func TestMeet(t *testing.T) {
	for _, x := range []struct{ a, b, want api.Range }{
		{rng("a", "m"), rng("c", "z"), rng("c", "m")},
		{rng("a", "z"), rng("b", "c"), rng("b", "c")},
		{rng("a", "c"), rng("a", "b"), rng("a", "b")},
		{rng("a", "c"), rng("b", "c"), rng("b", "c")},
		{rng("a", "m"), from("c"), rng("c", "m")},
		{rng("c", "m"), from("a"), rng("c", "m")},
		{rng("a", "m"), span.Whole(), rng("a", "m")},
		{from("a"), from("b"), from("b")},
		{span.Whole(), span.Whole(), span.Whole()},
		{from(highest), span.Whole(), from(highest)},
		{rng("a", "b"), rng("a", "a\x00"), rng("a", "a\x00")},
	} {
		for _, pair := range [][2]api.Range{{x.a, x.b}, {x.b, x.a}} {
			if r, is := span.Meet(pair[0], pair[1]); r != x.want || !is {
				t.Errorf("Meet(%#v, %#v): %#v, %t, want %#v", pair[0], pair[1], r, is, x.want)
			}
		}
	}
}

// P2.4
func TestMeetOfNone(t *testing.T) {
	for _, x := range []struct{ a, b api.Range }{
		{rng("a", "c"), rng("c", "e")},
		{rng("a", "b"), rng("c", "d")},
		{rng("a", "c"), from("c")},
		{rng("a", "c"), from("d")},
		{span.Whole(), rng("a", "a")},
		{rng("a", "c"), rng("b", "b")},
		{rng("b", "b"), rng("b", "b")},
		{rng("", ""), rng("", "")},
		{rng("a", "b"), rng("b", "a")},
		{span.Whole(), rng("b", "a")},
		{span.Whole(), openTo("a", "b")},
		{rng("a", "c"), openTo("a", "b")},
		{rng("a", "c"), openTo("b", "b")},
		{rng("a", "c"), rng("b", tooLong)},
		{rng("a", "c"), rng("", tooLong)},
		{span.Whole(), from(tooLong)},
	} {
		for _, pair := range [][2]api.Range{{x.a, x.b}, {x.b, x.a}} {
			if r, is := span.Meet(pair[0], pair[1]); r != (api.Range{}) || is {
				t.Errorf("Meet(%#v, %#v): %#v, %t, want none", pair[0], pair[1], r, is)
			}
		}
	}
}

// P2.4, P2.9
func TestMeetAllSamples(t *testing.T) {
	for _, a := range sampleRanges() {
		for _, b := range sampleRanges() {
			var want [10]bool
			inB := sampleSet(b)
			for i, inA := range sampleSet(a) {
				want[i] = inA && inB[i]
			}
			r, is := span.Meet(a, b)
			if is != (want != [10]bool{}) || sampleSet(r) != want {
				t.Fatalf("Meet(%#v, %#v): %#v, %t", a, b, r, is)
			}
			for _, key := range samples() {
				if span.Holds(r, key) != (span.Holds(a, key) && span.Holds(b, key)) {
					t.Fatalf("Meet(%#v, %#v): %#v, and %q", a, b, r, key)
				}
			}
		}
	}
}
