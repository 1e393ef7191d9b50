package span_test

import (
	"strings"
	"testing"

	"tideline/api"
	"tideline/span"
)

// P2.1
func TestWhole(t *testing.T) {
	if r := span.Whole(); r != (api.Range{Lo: "", Hi: "", Open: true}) {
		t.Errorf("Whole: %+v", r)
	}
	for _, key := range samples() {
		if !span.Holds(span.Whole(), key) {
			t.Errorf("the whole range does not hold %q", key)
		}
	}
}

// P2.1
func TestCheck(t *testing.T) {
	for _, x := range []struct {
		r    api.Range
		want api.Errno
	}{
		{span.Whole(), api.OK},
		{rng("", ""), api.OK},
		{rng("a", "a"), api.OK},
		{rng("a", "b"), api.OK},
		{rng("a", "a\x00"), api.OK},
		{rng("", long), api.OK},
		{rng(long, long), api.OK},
		{rng(long, highest), api.OK},
		{rng("\x7F", "\x80"), api.OK},
		{from("a"), api.OK},
		{from(long), api.OK},
		{from(highest), api.OK},

		{rng("b", "a"), api.ErrRange},
		{rng("a\x00", "a"), api.ErrRange},
		{rng("aa", "a"), api.ErrRange},
		{rng("a", ""), api.ErrRange},
		{rng("\x80", "\x7F"), api.ErrRange},
		{rng(highest, long), api.ErrRange},
		{openTo("a", "b"), api.ErrRange},
		{openTo("a", "a"), api.ErrRange},
		{openTo("b", "a"), api.ErrRange},
		{openTo("", "\x00"), api.ErrRange},

		{rng("", tooLong), api.ErrKey},
		{rng(tooLong, highest), api.ErrKey},
		{rng(tooLong, tooLong), api.ErrKey},
		{rng("a", tooLong+tooLong), api.ErrKey},
		{from(tooLong), api.ErrKey},
		{from(strings.Repeat("\xFF", 17)), api.ErrKey},
		// Both are wrong: that of the keys is told.
		{rng(tooLong, ""), api.ErrKey},
		{rng(tooLong, "a"), api.ErrKey},
		{rng("z", tooLong), api.ErrKey},
		{openTo("a", tooLong), api.ErrKey},
		{openTo(tooLong, "a"), api.ErrKey},
	} {
		if e := span.Check(x.r); e != x.want {
			t.Errorf("Check(%#v): %d, want %d", x.r, e, x.want)
		}
	}
}

// P2.1
func TestCheckAllSamples(t *testing.T) {
	for _, r := range sampleRanges() {
		want := api.OK
		if len(r.Lo) > 16 || len(r.Hi) > 16 {
			want = api.ErrKey
		} else if !possible(r) {
			want = api.ErrRange
		}
		if e := span.Check(r); e != want {
			t.Errorf("Check(%#v): %d, want %d", r, e, want)
		}
	}
}

// P2.2
func TestEmpty(t *testing.T) {
	for _, x := range []struct {
		r    api.Range
		want bool
	}{
		{rng("a", "a"), true},
		{rng("", ""), true},
		{rng(highest, highest), true},
		{rng("a", "a\x00"), false},
		{rng("", "\x00"), false},
		{span.Whole(), false},
		{from("a"), false},
		{from(highest), false},
		{rng("b", "a"), true},
		{openTo("a", "b"), true},
		{openTo("a", "a"), true},
		{rng("a", tooLong), true},
		{rng(tooLong, tooLong), true},
		{from(tooLong), true},
	} {
		if is := span.Empty(x.r); is != x.want {
			t.Errorf("Empty(%#v): %t, want %t", x.r, is, x.want)
		}
	}
	for _, r := range sampleRanges() {
		if is, want := span.Empty(r), sampleSet(r) == [10]bool{}; is != want {
			t.Errorf("Empty(%#v): %t, want %t", r, is, want)
		}
	}
}

// P2.2
func TestHolds(t *testing.T) {
	for _, x := range []struct {
		r    api.Range
		key  string
		want bool
	}{
		{rng("a", "c"), "a", true},
		{rng("a", "c"), "bzz", true},
		{rng("a", "c"), "b" + long[:15], true},
		{rng("a", "c"), "c", false},
		{rng("a", "c"), "c\x00", false},
		{rng("a", "c"), "", false},
		{rng("a", "c"), "`zz", false},
		{rng("", "a"), "", true},
		{rng("", "a"), "\x00", true},
		{rng("\x7F", "\x81"), "\x80", true},
		{from("a"), "a", true},
		{from("a"), highest, true},
		{from("b"), "a", false},
		{from(highest), highest, true},
		// None is in an empty one.
		{rng("a", "a"), "a", false},
		{rng("", ""), "", false},
		// Texts that are no keys.
		{span.Whole(), tooLong, false},
		{rng("a", "z"), tooLong, false},
		{from("k"), tooLong, false},
		// Ranges that may not be.
		{rng("c", "a"), "b", false},
		{rng("c", "a"), "c", false},
		{openTo("a", "c"), "b", false},
		{openTo("a", "c"), "d", false},
		{rng("a", tooLong), "b", false},
		{from(tooLong), highest, false},
	} {
		if is := span.Holds(x.r, x.key); is != x.want {
			t.Errorf("Holds(%#v, %q): %t, want %t", x.r, x.key, is, x.want)
		}
	}
}

// P2.2
func TestHoldsAllSamples(t *testing.T) {
	for _, r := range sampleRanges() {
		want := sampleSet(r)
		for i, key := range samples() {
			if is := span.Holds(r, key); is != want[i] {
				t.Errorf("Holds(%#v, %q): %t, want %t", r, key, is, want[i])
			}
		}
		if span.Holds(r, tooLong) {
			t.Errorf("Holds(%#v, %q), which is no key", r, tooLong)
		}
	}
}

// P2.9
func TestLoIsHeld(t *testing.T) {
	for _, r := range sampleRanges() {
		if span.Holds(r, r.Lo) == span.Empty(r) {
			t.Errorf("%#v: empty %t, its Lo held %t", r, span.Empty(r), span.Holds(r, r.Lo))
		}
	}
}
