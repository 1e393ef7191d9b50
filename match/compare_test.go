package match_test

import (
	"math/rand/v2"
	"slices"
	"testing"

	"tideline/api"
)

// P13.2: the chapter's rows.
func TestCompareRows(t *testing.T) {
	s := holding(t, abc())
	all := plainTally(abc())
	one := func(key string, counter int) api.Tally { return plainTally(list(entry(key, counter, 0, ""))) }
	for _, x := range []struct {
		branch, leaf int
		p            api.Part
		want         []api.Part
	}{
		{2, 1, print(whole(), all), nil},
		{2, 3, print(whole(), api.Tally{}), parts(items(whole(), abc()...))},
		{2, 1, print(whole(), api.Tally{}), parts(print(rng("", "b"), one("a", 1)), print(from("b"), plainTally(abc()[1:])))},
		{16, 1, print(whole(), api.Tally{}), parts(print(rng("", "b"), one("a", 1)), print(rng("b", "c"), one("b", 2)), print(from("c"), one("c", 3)))},
		{2, 1, print(rng("x", "y"), tally(1, 2, 3)), parts(items(rng("x", "y")))},
	} {
		if got := compared(t, s, x.branch, x.leaf, x.p); !same(got, x.want) {
			t.Errorf("Compare(%d, %d, %s): %s, want %s", x.branch, x.leaf, brief(x.p), brief(got...), brief(x.want...))
		}
	}
	isAs(t, "behind all of them", s, 3, abc())
}

// P13.2: no parts where what is held comes to the same, however many entries that are, whatever branch and leaf.
func TestCompareOfTheSame(t *testing.T) {
	for _, held := range sampleMaps() {
		s, m := holding(t, held), plainOf(held)
		for _, r := range sampleRanges() {
			for _, branch := range []int{2, 16} {
				for _, leaf := range []int{1, 32} {
					if l := compared(t, s, branch, leaf, m.print(r)); len(l) != 0 {
						t.Fatalf("%d entries: Compare(%d, %d) of the same in %#v: %s", len(held), branch, leaf, r, brief(l...))
					}
				}
			}
		}
	}
}

// P13.2: what an entry comes to hangs on its key and version alone: unlike values, and dead entries for living ones, are not seen.
func TestCompareDoesNotAskValues(t *testing.T) {
	s := holding(t, list(entry("a", 1, 0, "x"), dead("b", 2, 0)))
	other := plainTally(list(dead("a", 1, 0), entry("b", 2, 0, "y")))
	if l := compared(t, s, 2, 1, print(whole(), other)); len(l) != 0 {
		t.Errorf("%s", brief(l...))
	}
	for _, unlike := range [][]api.Entry{
		{entry("a", 1, 1, "x"), dead("b", 2, 0)},
		{entry("a", 3, 0, "x"), dead("b", 2, 0)},
		{entry("a\x00", 1, 0, "x"), dead("b", 2, 0)},
		{entry("a", 1, 0, "x")},
	} {
		if l := compared(t, s, 2, 2, print(whole(), plainTally(unlike))); len(l) != 1 || len(l[0].Entries) != 2 {
			t.Errorf("the other side holds %s: %s", quoted(unlike), brief(l...))
		}
	}
}

// P13.2: a tally is another one already if the Count alone, or one lane of the Sum alone, is.
func TestCompareOfNearlyTheSame(t *testing.T) {
	for _, held := range sampleMaps() {
		own := plainTally(held)
		for _, other := range []api.Tally{
			{Count: own.Count + 1, Sum: own.Sum},
			{Count: own.Count - 1, Sum: own.Sum},
			{Count: own.Count, Sum: api.Sum{own.Sum[0] + 1, own.Sum[1]}},
			{Count: own.Count, Sum: api.Sum{own.Sum[0], own.Sum[1] ^ 1<<63}},
			{Count: own.Count, Sum: api.Sum{own.Sum[1], own.Sum[0]}},
		} {
			if other.Count < 0 || other.Count > most || other.Count == 0 && other.Sum != (api.Sum{}) || other == own {
				continue
			}
			for _, leaf := range []int{1, 32} {
				l := compared(t, holding(t, held), 2, leaf, print(whole(), other))
				if len(l) == 0 {
					t.Errorf("%d entries: Compare with %v is the same as with %v", len(held), other, own)
				}
				asCompared(t, held, 2, leaf, print(whole(), other))
			}
		}
	}
}

// others are tallies that may be, of which none is own.
func others(own api.Tally) []api.Tally {
	l := []api.Tally{{}, tally(1, 2, 3), tally(most, 5, 0)}
	if own.Count > 0 {
		l = append(l, tally(own.Count, own.Sum[1], own.Sum[0]))
	}
	return slices.DeleteFunc(l, func(t api.Tally) bool { return t == own })
}

// P13.2: ranges with as many entries as leaf, and as branch, with one fewer and one more, with none and with as many as a store holds.
func TestCompareAtLeafAndBranch(t *testing.T) {
	for _, branch := range []int{2, 3, 15, 16} {
		for _, leaf := range []int{1, 2, 3, 15, 16, 17, 31, 32} {
			for _, count := range edges(0, leaf, branch, 2*branch, most-1) {
				held := many(count)
				for _, other := range others(plainTally(held)) {
					l := compared(t, holding(t, held), branch, leaf, print(whole(), other))
					checkForm(t, branch, leaf, held, l)
					asCompared(t, held, branch, leaf, print(whole(), other))
				}
			}
		}
	}
}

// checkForm asks for Items with all that is held, or for as many Prints as P13.2 says, no two of which differ by more than one entry.
func checkForm(t *testing.T, branch, leaf int, held []api.Entry, l []api.Part) {
	t.Helper()
	if len(held) <= leaf {
		if len(l) != 1 || !samePart(l[0], items(whole(), held...)) {
			t.Fatalf("branch %d, leaf %d, %d entries: %s", branch, leaf, len(held), brief(l...))
		}
		return
	}
	if len(l) != branch && (len(l) != len(held) || len(held) > branch) {
		t.Fatalf("branch %d, leaf %d, %d entries: %s", branch, leaf, len(held), brief(l...))
	}
	var counts []int
	for _, p := range l {
		counts = append(counts, p.Tally.Count)
		if p.Kind != api.PartPrint || len(p.Entries) > 0 {
			t.Fatalf("branch %d, leaf %d, %d entries: %s", branch, leaf, len(held), brief(p))
		}
	}
	if slices.Min(counts) < 1 || slices.Max(counts) > slices.Min(counts)+1 {
		t.Fatalf("branch %d, leaf %d, %d entries: parts with %v", branch, leaf, len(held), counts)
	}
}

// around are ranges that have just the count numbered keys from the first-th one on.
func around(first, count int) []api.Range {
	keys := numbered(0, most+1)
	l := []api.Range{rng(keys[first], keys[first+count]), rng(keys[first], keys[first+count-1]+"\x00")}
	if first > 0 {
		l = append(l, rng(keys[first-1]+"\x00", keys[first+count]))
	}
	if first+count == most {
		l = append(l, from(keys[first]))
	}
	return l
}

// P13.2: what is asked is how many entries lie in the range, not how many the store holds; what lies beside it is not told.
func TestCompareWithinTheRange(t *testing.T) {
	held := many(most)
	for _, branch := range []int{2, 5, 16} {
		for _, leaf := range []int{1, 4, 32} {
			for _, count := range edges(max(leaf, 2), branch, 100) {
				for _, first := range []int{0, 1, 77, most - count} {
					for _, r := range around(first, count) {
						asCompared(t, held, branch, leaf, print(r, tally(3, 1, 2)))
					}
				}
			}
		}
	}
}

// P13.2: where nothing lies in the range it is Items without entries, unless the other side holds nothing there either.
func TestCompareWhereNothingLies(t *testing.T) {
	for _, held := range sampleMaps() {
		s, m := holding(t, held), plainOf(held)
		for _, r := range []api.Range{rng("x", "y"), rng("a\x00\x00", "a\x00\x01"), rng("k", "k\x00"), rng("y", highest), from("\xFF\xFF\x00"), whole()} {
			if len(m.in(r)) > 0 {
				continue
			}
			for _, branch := range []int{2, 16} {
				if l := compared(t, s, branch, 1, print(r, tally(1, 0, 0))); len(l) != 1 || !samePart(l[0], items(r)) {
					t.Errorf("%d entries: %#v: %s", len(held), r, brief(l...))
				}
				if l := compared(t, s, branch, 1, print(r, api.Tally{})); len(l) != 0 {
					t.Errorf("%d entries: %#v: %s", len(held), r, brief(l...))
				}
			}
		}
	}
}

// P13.2: dead entries are told in Items, as they are held.
func TestCompareTellsDeadEntries(t *testing.T) {
	held := list(dead("a", 1, 0), entry("b", 2, 1, longValue), dead("c", greatest, 7))
	s := holding(t, held)
	if l := compared(t, s, 2, 32, print(whole(), api.Tally{})); len(l) != 1 || !samePart(l[0], items(whole(), held...)) {
		t.Errorf("%s", brief(l...))
	}
	if l := compared(t, s, 3, 1, print(whole(), api.Tally{})); len(l) != 3 || l[0].Tally != plainTally(held[:1]) || l[2].Tally != plainTally(held[2:]) {
		t.Errorf("%s", brief(l...))
	}
}

// P13.2: a Print may have a list of entries that has none.
func TestCompareWithAnEmptyList(t *testing.T) {
	p := print(whole(), api.Tally{})
	p.Entries = make([]api.Entry, 0, 4)
	if l := compared(t, holding(t, abc()), 2, 3, p); len(l) != 1 || !samePart(l[0], items(whole(), abc()...)) {
		t.Errorf("%s", brief(l...))
	}
}

// P13.2: maps and ranges of all sorts, with each branch and leaf, held against the second reading.
func TestCompareSamples(t *testing.T) {
	rnd := rand.New(rand.NewPCG(13, 2))
	for _, held := range sampleMaps() {
		m := plainOf(held)
		for _, r := range sampleRanges() {
			own := plainTally(m.in(r))
			tallies := append(others(own), own)
			for range 12 {
				asCompared(t, held, 2+rnd.IntN(15), 1+rnd.IntN(32), print(r, tallies[rnd.IntN(len(tallies))]))
			}
		}
	}
	for branch := 2; branch <= 16; branch++ {
		for leaf := 1; leaf <= 32; leaf++ {
			asCompared(t, many(leaf+branch), branch, leaf, print(whole(), api.Tally{}))
		}
	}
}

// P13.2: asked twice it answers the same, since nothing of the store is changed.
func TestCompareAgain(t *testing.T) {
	for _, held := range sampleMaps() {
		s := holding(t, held)
		for _, leaf := range []int{1, 32} {
			p := print(whole(), tally(1, 2, 3))
			one, two := compared(t, s, 2, leaf, p), compared(t, s, 2, leaf, p)
			if !same(one, two) {
				t.Errorf("%d entries: %s, then %s", len(held), brief(one...), brief(two...))
			}
		}
	}
}
