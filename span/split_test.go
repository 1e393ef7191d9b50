package span_test

import (
	"slices"
	"testing"

	"tideline/api"
	"tideline/span"
)

// P2.5
func TestSplit(t *testing.T) {
	for _, x := range []struct {
		r       api.Range
		borders []string
		want    []api.Range
	}{
		{span.Whole(), []string{"f", "m"}, []api.Range{rng("", "f"), rng("f", "m"), from("m")}},
		{span.Whole(), []string{"\x00"}, []api.Range{rng("", "\x00"), from("\x00")}},
		{span.Whole(), []string{highest}, []api.Range{rng("", highest), from(highest)}},
		{from("b"), []string{"b\x00", "\xFF"}, []api.Range{rng("b", "b\x00"), rng("b\x00", "\xFF"), from("\xFF")}},
		{rng("a", "c"), []string{"b"}, []api.Range{rng("a", "b"), rng("b", "c")}},
		{rng("a", "c"), []string{"a\x00", "b", "bz"}, []api.Range{rng("a", "a\x00"), rng("a\x00", "b"), rng("b", "bz"), rng("bz", "c")}},
		{rng("a", "z"), []string{long}, []api.Range{rng("a", long), rng(long, "z")}},
	} {
		if l, e := span.Split(x.r, x.borders); e != api.OK || !slices.Equal(l, x.want) {
			t.Errorf("Split(%#v, %q): %#v, %d, want %#v", x.r, x.borders, l, e, x.want)
		}
	}
}

// P2.5
func TestSplitWithoutBorders(t *testing.T) {
	for _, r := range []api.Range{span.Whole(), rng("a", "c"), rng("a", "a"), rng("", ""), from(highest)} {
		for _, none := range [][]string{nil, {}} {
			if l, e := span.Split(r, none); e != api.OK || !slices.Equal(l, []api.Range{r}) {
				t.Errorf("Split(%#v) without borders: %#v, %d", r, l, e)
			}
		}
	}
}

// P2.5, R2
func TestSplitWrongBorders(t *testing.T) {
	for _, x := range []struct {
		r       api.Range
		borders []string
	}{
		{rng("a", "c"), []string{"a"}},
		{rng("a", "c"), []string{""}},
		{rng("a", "c"), []string{"`"}},
		{rng("a", "c"), []string{"c"}},
		{rng("a", "c"), []string{"d"}},
		{rng("a", "c"), []string{"b", "b"}},
		{rng("a", "c"), []string{"bb", "b"}},
		{rng("a", "c"), []string{"a", "b"}},
		{rng("a", "c"), []string{"b", "c"}},
		{rng("a", "c"), []string{"b", "d"}},
		{rng("a", "z"), []string{"b", "x", "d"}},
		{rng("a", "z"), []string{"b", "d", "c", "x"}},
		{rng("a", "z"), []string{tooLong}},
		{rng("a", "z"), []string{"b", tooLong, "y"}},
		{rng("a", "a"), []string{"a"}},
		{rng("a", "a"), []string{"b"}},
		{rng("", ""), []string{""}},
		{span.Whole(), []string{""}},
		{span.Whole(), []string{tooLong}},
		{span.Whole(), []string{"a", tooLong}},
		{span.Whole(), []string{"b", "a"}},
		{span.Whole(), []string{"b", "b"}},
		{from("b"), []string{"a"}},
		{from("b"), []string{"b"}},
		{from(highest), []string{highest}},
	} {
		if l, e := span.Split(x.r, x.borders); e != api.ErrBorder || len(l) != 0 {
			t.Errorf("Split(%#v, %q): %#v, %d, want ErrBorder", x.r, x.borders, l, e)
		}
	}
}

// P2.5, R2
func TestSplitWrongRange(t *testing.T) {
	for _, x := range []struct {
		r    api.Range
		want api.Errno
	}{
		{rng("b", "a"), api.ErrRange},
		{openTo("a", "z"), api.ErrRange},
		{rng("a", tooLong), api.ErrKey},
		{from(tooLong), api.ErrKey},
		{rng(tooLong, ""), api.ErrKey},
	} {
		// Of a range that may not be the borders are not looked at.
		for _, borders := range [][]string{nil, {"b"}, {"z", "a"}, {tooLong}} {
			if l, e := span.Split(x.r, borders); e != x.want || len(l) != 0 {
				t.Errorf("Split(%#v, %q): %#v, %d, want %d", x.r, borders, l, e, x.want)
			}
		}
	}
}

// bordersOf are all lists of at most three samples.
func bordersOf() [][]string {
	l := [][]string{nil}
	for _, a := range append(samples(), tooLong) {
		l = append(l, []string{a})
		for _, b := range samples() {
			l = append(l, []string{a, b})
			for _, c := range samples() {
				l = append(l, []string{a, b, c})
			}
		}
	}
	return l
}

func riseWithin(r api.Range, borders []string) bool {
	ahead := r.Lo
	for _, b := range borders {
		if len(b) > 16 || !below(ahead, b) || !r.Open && !below(b, r.Hi) {
			return false
		}
		ahead = b
	}
	return true
}

// P2.5, P2.8
func TestSplitAllSamples(t *testing.T) {
	for _, r := range sampleRanges() {
		if !possible(r) {
			continue
		}
		for _, borders := range bordersOf() {
			l, e := span.Split(r, borders)
			if !riseWithin(r, borders) {
				if e != api.ErrBorder || len(l) != 0 {
					t.Fatalf("Split(%#v, %q): %#v, %d, want ErrBorder", r, borders, l, e)
				}
				continue
			}
			if e != api.OK || len(l) != len(borders)+1 {
				t.Fatalf("Split(%#v, %q): %#v, %d", r, borders, l, e)
			}
			if span.Tile(l, r) == span.Empty(r) {
				t.Fatalf("Split(%#v, %q): %#v, which tile it: %t", r, borders, l, span.Tile(l, r))
			}
			holdsOnce(t, r, l)
		}
	}
}

// holdsOnce asks that each key that r has stands in just one of the pieces, and no other key in any.
func holdsOnce(t *testing.T, r api.Range, pieces []api.Range) {
	t.Helper()
	for _, key := range samples() {
		in, want := 0, 0
		for _, piece := range pieces {
			if span.Holds(piece, key) {
				in++
			}
		}
		if span.Holds(r, key) {
			want = 1
		}
		if in != want {
			t.Fatalf("%q stands in %d of %#v, pieces of %#v", key, in, pieces, r)
		}
	}
}

// R3
func TestSplitLeavesBorders(t *testing.T) {
	room := []string{"b", "d", "x", "y"}
	first, _ := span.Split(rng("a", "z"), room[:2])
	second, _ := span.Split(rng("a", "z"), room[:2])
	if !slices.Equal(room, []string{"b", "d", "x", "y"}) {
		t.Errorf("the borders are %q now", room)
	}
	for i := range first[:cap(first)] {
		first[:cap(first)][i] = rng("q", "r")
	}
	room[0] = "c"
	if !slices.Equal(second, []api.Range{rng("a", "b"), rng("b", "d"), rng("d", "z")}) {
		t.Errorf("the pieces are %#v now", second)
	}
}
