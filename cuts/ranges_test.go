package cuts_test

import (
	"math/rand/v2"
	"slices"
	"testing"

	"tideline/api"
	"tideline/cuts"
	"tideline/span"
)

// P7.3
func TestRanges(t *testing.T) {
	for _, x := range []struct {
		r     api.Range
		keys  []string
		parts int
		want  []api.Range
	}{
		{rng("a", "x"), []string{"b", "d"}, 2, []api.Range{rng("a", "d"), rng("d", "x")}},
		{rng("a", "x"), []string{"b", "d"}, 1, []api.Range{rng("a", "x")}},
		{whole(), []string{"a", "b", "c", "d", "e"}, 2, []api.Range{rng("", "c"), from("c")}},
		{whole(), []string{"", "\x00"}, 2, []api.Range{rng("", "\x00"), from("\x00")}},
		{whole(), []string{""}, 1, []api.Range{whole()}},
		{whole(), []string{highest}, 1, []api.Range{whole()}},
		{whole(), []string{"", highest}, 2, []api.Range{rng("", highest), from(highest)}},
		{from("b"), []string{"b", "c"}, 2, []api.Range{rng("b", "c"), from("c")}},
		{from(highest), []string{highest}, 1, []api.Range{from(highest)}},
		{rng("a", "a\x00"), []string{"a"}, 1, []api.Range{rng("a", "a\x00")}},
		{rng("", "\x00"), []string{""}, 1, []api.Range{rng("", "\x00")}},
		{rng("a", "c"), []string{"a", "b", "bz"}, 3, []api.Range{rng("a", "b"), rng("b", "bz"), rng("bz", "c")}},
		{rng("a", "b"), []string{"a", "a\x00", "aa"}, 3, []api.Range{rng("a", "a\x00"), rng("a\x00", "aa"), rng("aa", "b")}},
		{rng("k", "l"), []string{"k", long}, 2, []api.Range{rng("k", long), rng(long, "l")}},
	} {
		if l, e := cuts.Ranges(x.r, x.keys, x.parts); e != api.OK || !slices.Equal(l, x.want) {
			t.Errorf("Ranges(%#v, %q, %d): %#v, %d, want %#v", x.r, x.keys, x.parts, l, e, x.want)
		}
	}
}

// around are ranges that have all of keys: the whole one, and those that begin, or end, at the keys themselves.
func around(keys []string) []api.Range {
	first, last := keys[0], keys[len(keys)-1]
	l := []api.Range{whole(), from(first)}
	if last < highest {
		// Of the keys above the last one this is a near one, at whatever length that has.
		end := last + "\x00"
		if len(end) > 16 {
			end = highest
		}
		l = append(l, rng("", end), rng(first, end), rng(first, highest))
	}
	return l
}

// P7.3
func TestRangesAtEveryNumber(t *testing.T) {
	dice := rand.New(rand.NewPCG(7, 3))
	lists := [][]string{samples(), manyKeys(256)}
	for _, n := range []int{1, 2, 3, 16, 17, 100, 256} {
		lists = append(lists, anyKeys(dice, n))
	}
	for _, keys := range lists {
		for _, r := range around(keys) {
			for parts := 1; parts <= len(keys); parts++ {
				l, e := cuts.Ranges(r, keys, parts)
				if e != api.OK || len(l) != parts || !span.Tile(l, r) {
					t.Fatalf("Ranges(%#v, %q, %d): %#v, %d", r, keys, parts, l, e)
				}
				eachHasItsPart(t, keys, l)
			}
		}
	}
}

// eachHasItsPart asks that each range has the keys of its part, and no other one.
func eachHasItsPart(t *testing.T, keys []string, l []api.Range) {
	t.Helper()
	for j, part := range partsOf(keys, len(l)) {
		var has []string
		for _, key := range keys {
			if isIn(l[j], key) {
				has = append(has, key)
			}
		}
		if !slices.Equal(has, part) {
			t.Fatalf("range %d of %#v has %q, want %q", j, l, has, part)
		}
	}
}

// P7.3, R2
func TestRangesWrong(t *testing.T) {
	for _, x := range []struct {
		r     api.Range
		keys  []string
		parts int
		want  api.Errno
	}{
		{rng(tooLong, "z"), []string{"l"}, 1, api.ErrKey},
		{rng("a", tooLong), []string{"b"}, 1, api.ErrKey},
		{from(tooLong), []string{"l"}, 1, api.ErrKey},
		{rng("x", "a"), []string{"b"}, 1, api.ErrRange},
		{openTo("a", "z"), []string{"b"}, 1, api.ErrRange},
		{rng("a", "z"), []string{tooLong}, 1, api.ErrKey},
		{rng("a", "z"), []string{"c", "b"}, 1, api.ErrBorder},
		{rng("a", "z"), []string{"b", "b"}, 2, api.ErrBorder},
		{rng("a", "x"), []string{"b", "x"}, 2, api.ErrBorder},
		{rng("a", "x"), []string{"b", "x"}, 1, api.ErrBorder},
		{rng("a", "x"), []string{"`", "b"}, 2, api.ErrBorder},
		{rng("a", "x"), []string{"`", "b"}, 1, api.ErrBorder},
		{rng("a", "x"), []string{"", "b", "y"}, 2, api.ErrBorder},
		{rng("a", "a"), []string{"a"}, 1, api.ErrBorder},
		{rng("", ""), []string{""}, 1, api.ErrBorder},
		{from("b"), []string{"a\xFF"}, 1, api.ErrBorder},
		{whole(), nil, 1, api.ErrArg},
		{whole(), []string{}, 0, api.ErrArg},
		{rng("a", "a"), nil, 1, api.ErrArg},
		{rng("a", "z"), []string{"b"}, 0, api.ErrArg},
		{rng("a", "z"), []string{"b"}, 2, api.ErrArg},
		{rng("a", "z"), []string{"b"}, -1, api.ErrArg},
		{whole(), manyKeys(257), 2, api.ErrArg},
		// Two at once: the one that is named first is told.
		{rng("x", "a"), nil, 0, api.ErrRange},
		{rng(tooLong, "a"), []string{"l"}, 1, api.ErrKey},
		{openTo("a", tooLong), []string{"b"}, 1, api.ErrKey},
		{rng("x", "a"), []string{tooLong}, 1, api.ErrRange},
		{openTo("a", "z"), []string{tooLong}, 0, api.ErrRange},
		{rng("x", "a"), []string{"c", "b"}, 1, api.ErrRange},
		{rng(tooLong, "a"), []string{"c", "b"}, 1, api.ErrKey},
		{rng("a", "c"), []string{"d", tooLong}, 2, api.ErrKey},
		{rng("a", "c"), []string{"d", "b", tooLong}, 9, api.ErrKey},
		{rng("a", "z"), []string{"c", "b"}, 9, api.ErrBorder},
		{rng("a", "c"), []string{"b", "d"}, 0, api.ErrBorder},
		{rng("a", "c"), []string{"b", "d"}, 3, api.ErrBorder},
		{rng("a", "a"), []string{"a"}, 0, api.ErrBorder},
		{rng("a", "b"), manyKeys(257), 2, api.ErrBorder},
	} {
		if l, e := cuts.Ranges(x.r, x.keys, x.parts); e != x.want || len(l) != 0 {
			t.Errorf("Ranges(%#v, %q, %d): %#v, %d, want %d", x.r, x.keys, x.parts, l, e, x.want)
		}
	}
}

// P7.3, R1, R2
func TestRangesWrongNumbers(t *testing.T) {
	for _, n := range []int{0, 1, 2, 255, 256, 257, 300} {
		keys := manyKeys(n)
		for _, parts := range append(outside(1, n), outside(1, 256)...) {
			if l, e := cuts.Ranges(whole(), keys, parts); e != api.ErrArg || len(l) != 0 {
				t.Errorf("Ranges of %d keys, %d parts: %#v, %d, want ErrArg", n, parts, l, e)
			}
		}
	}
}

// P7.3, R2
func TestRangesAllSamples(t *testing.T) {
	lists := keyLists()
	bounds := []string{"", "\x00", "a", "a\x00", "b", highest, tooLong}
	for _, lo := range bounds {
		for _, hi := range bounds {
			for _, r := range []api.Range{rng(lo, hi), openTo(lo, hi)} {
				for _, keys := range lists {
					for parts := 0; parts <= 4; parts++ {
						wholly(t, r, keys, parts)
					}
				}
			}
		}
	}
}

func wholly(t *testing.T, r api.Range, keys []string, parts int) {
	t.Helper()
	l, e := cuts.Ranges(r, keys, parts)
	if want := rangesError(r, keys, parts); e != want {
		t.Fatalf("Ranges(%#v, %q, %d): %d, want %d", r, keys, parts, e, want)
	}
	if e != api.OK {
		if len(l) != 0 {
			t.Fatalf("Ranges(%#v, %q, %d): %#v beside an error", r, keys, parts, l)
		}
		return
	}
	if len(l) != parts || !span.Tile(l, r) {
		t.Fatalf("Ranges(%#v, %q, %d): %#v", r, keys, parts, l)
	}
	eachHasItsPart(t, keys, l)
}

// R3
func TestRangesAreNew(t *testing.T) {
	room := []string{"b", "d", "f", "x", "c"}
	want := []api.Range{rng("a", "d"), rng("d", "f"), rng("f", "z")}
	first, _ := cuts.Ranges(rng("a", "z"), room[:3], 3)
	second, _ := cuts.Ranges(rng("a", "z"), room[:3], 3)
	spoil(first, rng("q", "r"))
	if !slices.Equal(room, []string{"b", "d", "f", "x", "c"}) {
		t.Errorf("the keys are %q now", room)
	}
	spoil(room, "q")
	if !slices.Equal(second, want) {
		t.Errorf("the ranges are %#v now", second)
	}
}
