package match_test

import (
	"testing"

	"tideline/api"
	"tideline/match"
)

// P13.1: a Print of the range, with the tally of what the store holds there, dead entries too; nothing of the store is changed.
func TestPrint(t *testing.T) {
	for _, held := range sampleMaps() {
		s, m := holding(t, held), plainOf(held)
		for _, r := range sampleRanges() {
			unchanged(t, "Print", s, func() {
				p, e := match.Print(s, r)
				if want := m.print(r); !samePart(p, want) || e != api.OK {
					t.Errorf("%d entries: Print(%#v): %s, %d, want %s", len(held), r, brief(p), e, brief(want))
				}
				if fold, _ := s.Fold(r); p.Tally != fold {
					t.Errorf("%d entries: Print(%#v): %v, Fold tells %v", len(held), r, p.Tally, fold)
				}
			})
		}
	}
}

// P13.1: dead entries count, values don't; of a range in which nothing lies the tally is the zero one.
func TestPrintOfDeadAndNone(t *testing.T) {
	s := holding(t, list(dead("a", 4, 1), entry("b", 2, 0, "value"), dead("c", 3, 0)))
	for _, x := range []struct {
		r    api.Range
		want api.Tally
	}{
		{whole(), plainTally(list(entry("a", 4, 1, "x"), dead("b", 2, 0), entry("c", 3, 0, "")))},
		{rng("a", "b"), plainTally(list(entry("a", 4, 1, "x")))},
		{rng("b", "c"), plainTally(list(entry("b", 2, 0, "")))},
		{from("c"), plainTally(list(dead("c", 3, 0)))},
		{from("a"), plainTally(list(entry("a", 4, 1, ""), dead("b", 2, 0), entry("c", 3, 0, "")))},
		{rng("", "a"), api.Tally{}},
		{rng("a\x00", "b"), api.Tally{}},
		{from("c\x00"), api.Tally{}},
	} {
		if p, e := match.Print(s, x.r); !samePart(p, print(x.r, x.want)) || e != api.OK {
			t.Errorf("Print(%#v): %s, %d, want %v", x.r, brief(p), e, x.want)
		}
	}
}

// P13.1: what is written since is seen by later Prints.
func TestPrintGoesWithTheStore(t *testing.T) {
	s := holding(t, nil)
	for i, key := range []string{"b", "a", "b", "c"} {
		before, _ := match.Print(s, whole())
		if _, e := s.Put(key, ""); e != api.OK {
			t.Fatal(e)
		}
		after, e := match.Print(s, whole())
		if want := plainOf(heldIn(t, s, whole())).print(whole()); !samePart(after, want) || e != api.OK || samePart(before, after) {
			t.Errorf("Put %d: %s, then %s, %d", i, brief(before), brief(after), e)
		}
	}
}

// P13.1: span.Check's error of a range that may not be, ErrTiles of one that is empty; the store is as it was.
func TestPrintOfWrongRanges(t *testing.T) {
	for _, held := range sampleMaps() {
		s := holding(t, held)
		for _, x := range []struct {
			r api.Range
			e api.Errno
		}{
			{rng("", ""), api.ErrTiles},
			{rng("a", "a"), api.ErrTiles},
			{rng("x", "x"), api.ErrTiles},
			{rng(longKey, longKey), api.ErrTiles},
			{rng(highest, highest), api.ErrTiles},
			{rng("b", "a"), api.ErrRange},
			{rng("a", ""), api.ErrRange},
			{rng("a\x00", "a"), api.ErrRange},
			{rng(highest, lowest), api.ErrRange},
			{openTo("a", "b"), api.ErrRange},
			{openTo("a", "a"), api.ErrRange},
			{openTo("", "\x00"), api.ErrRange},
			{openTo("b", "a"), api.ErrRange},
			{rng(tooLongKey, "z"), api.ErrKey},
			{rng("a", tooLongKey), api.ErrKey},
			{from(tooLongKey), api.ErrKey},
			// Two at once: too long, and inverted, with an end, or empty.
			{rng(tooLongKey, "a"), api.ErrKey},
			{rng("z", tooLongKey), api.ErrKey},
			{openTo("a", tooLongKey), api.ErrKey},
			{openTo(tooLongKey, "b"), api.ErrKey},
			{rng(tooLongKey, tooLongKey), api.ErrKey},
			{openTo(tooLongKey, tooLongKey), api.ErrKey},
		} {
			untouched(t, "Print of a wrong range", s, func() {
				if p, e := match.Print(s, x.r); !samePart(p, api.Part{}) || e != x.e {
					t.Errorf("%d entries: Print(%#v): %s, %d, want %d", len(held), x.r, brief(p), e, x.e)
				}
			})
		}
	}
}
