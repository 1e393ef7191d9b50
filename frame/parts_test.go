package frame_test

import (
	"math"
	"slices"
	"testing"

	"tideline/api"
	"tideline/frame"
)

// asked holds what CheckParts answers against what it should, and the second reading against that.
func asked(t *testing.T, what string, l []api.Part, want api.Errno) {
	t.Helper()
	if e := frame.CheckParts(l); e != want {
		t.Errorf("%s: CheckParts: %d, want %d", what, e, want)
	}
	if e := plainParts(l); e != want {
		t.Errorf("%s: the second reading has %d, want %d", what, e, want)
	}
}

// P11.2
func TestGoodParts(t *testing.T) {
	for i, l := range goodParts() {
		if e := frame.CheckParts(l); e != api.OK {
			t.Errorf("good parts %d: %d", i, e)
		}
	}
}

// P11.2: the chapter's examples.
func TestPartsOfTheExamples(t *testing.T) {
	w := print(whole(), tally(0, 0, 0))
	asked(t, "the whole range twice", parts(w, w), api.ErrTiles)
	asked(t, "a Print of an empty range", parts(print(rng("b", "b"), tally(0, 0, 0))), api.ErrTiles)
	asked(t, "a Reply without entries", parts(reply(rng("a", "c"))), api.ErrItems)
	asked(t, "entries that fall", parts(items(rng("a", "c"), at("b"), at("a"))), api.ErrItems)
	asked(t, "an entry at the end", parts(items(rng("a", "c"), at("c"))), api.ErrItems)
}

// P11.2: as many parts as may be, and one more, whatever they are.
func TestHowManyParts(t *testing.T) {
	for _, n := range []int{1, 2, mostParts - 1, mostParts} {
		asked(t, "not too many Prints", prints(n), api.OK)
		asked(t, "not too many Items", withEntries(n, 0), api.OK)
		asked(t, "the zero Part again and again", make([]api.Part, n), api.ErrPart)
	}
	for _, n := range []int{mostParts + 1, mostParts + 2, 2 * mostParts, 70000} {
		asked(t, "too many Prints", prints(n), api.ErrMany)
		asked(t, "too many Items", withEntries(n, 0), api.ErrMany)
		asked(t, "too many zero Parts", make([]api.Part, n), api.ErrMany)
	}
}

// P11.2: as many entries as may be, and one more, in one part, in two, and in all.
func TestHowManyEntries(t *testing.T) {
	for _, x := range []struct {
		n    int
		want api.Errno
	}{{1, api.OK}, {mostEntries - 1, api.OK}, {mostEntries, api.OK}, {mostEntries + 1, api.ErrMany}, {mostEntries + 2, api.ErrMany}, {2 * mostEntries, api.ErrMany}, {3 * mostEntries, api.ErrMany}} {
		keys := numbered(0, x.n)
		asked(t, "in one of Items", parts(items(whole(), under(keys...)...)), x.want)
		asked(t, "in one Reply", parts(reply(from("k"), under(keys...)...)), x.want)
		asked(t, "in all", withEntries(mostParts, x.n), x.want)
		if x.n > 100 {
			asked(t, "in two", parts(items(rng("", keys[100]), under(keys[:100]...)...), reply(from(keys[100]), under(keys[100:]...)...)), x.want)
			end := keys[99] + "\x00"
			asked(t, "in two with a Print between", parts(reply(rng("", end), under(keys[:100]...)...), print(rng(end, keys[100]), tally(1, 2, 3)), items(from(keys[100]), under(keys[100:]...)...)), x.want)
		}
	}
}

// P11.2: entries count where they may not be, too.
func TestEntriesOfPrintsCount(t *testing.T) {
	few, many := make([]api.Entry, mostEntries), make([]api.Entry, mostEntries+1)
	odd := api.Part{Kind: 1, Range: whole(), Entries: many}
	asked(t, "a Print with too many", parts(odd), api.ErrMany)
	odd.Entries = few
	asked(t, "a Print with as many as may be", parts(odd), api.ErrPart)
	asked(t, "that, and one more in Items", parts(odd, items(whole(), at("a"))), api.ErrMany)
	asked(t, "that, ahead of it", parts(items(rng("", "a"), at("")), odd), api.ErrMany)
	odd.Kind = 0
	asked(t, "a part of no kind", parts(odd, odd), api.ErrMany)
}

// P11.2, 1
func TestKindsThatAreNone(t *testing.T) {
	for _, kind := range anyNumbers() {
		for _, l := range [][]api.Entry{nil, {}, {at("a")}} {
			for _, sum := range []api.Tally{{}, tally(1, 0, 0)} {
				p := api.Part{Kind: kind, Range: rng("a", "b"), Tally: sum, Entries: l}
				asked(t, "any kind", parts(p), plainParts(parts(p)))
				if kind < 1 || kind > 3 {
					asked(t, "no kind", parts(p), api.ErrPart)
				}
			}
		}
	}
	asked(t, "the zero Part", parts(api.Part{}), api.ErrPart)
}

// P11.2, 1
func TestFieldsThatAKindHasNot(t *testing.T) {
	p := print(rng("a", "c"), tally(1, 2, 3))
	p.Entries = []api.Entry{at("a")}
	asked(t, "a Print with an entry", parts(p), api.ErrPart)
	p.Entries = []api.Entry{{}}
	asked(t, "a Print with the zero Entry", parts(p), api.ErrPart)
	p.Entries = []api.Entry{}
	asked(t, "a Print with an empty list", parts(p), api.OK)
	p.Entries = []api.Entry{at("a")}[:0]
	asked(t, "a Print with spare room", parts(p), api.OK)
	for _, sum := range []api.Tally{tally(1, 0, 0), tally(-1, 0, 0), tally(0, 1, 0), tally(0, 0, 1), tally(0, 1<<63, 0), tally(0, 0, math.MaxUint64), tally(1, 2, 3), tally(math.MinInt, 0, 0), tally(math.MaxInt, 0, 0)} {
		for _, p := range parts(items(rng("a", "c")), items(rng("a", "c"), at("a")), reply(rng("a", "c"), at("a")), reply(rng("a", "c"))) {
			p.Tally = sum
			asked(t, "entries with a Tally", parts(p), api.ErrPart)
		}
	}
}

// wrongRanges are ranges that may not be, with span.Check's error of each.
func wrongRanges() map[api.Range]api.Errno {
	return map[api.Range]api.Errno{
		rng("b", "a"):               api.ErrRange,
		rng("a", ""):                api.ErrRange,
		rng("a\x00", "a"):           api.ErrRange,
		rng("\xFF", "\xFE"):         api.ErrRange,
		openTo("a", "b"):            api.ErrRange,
		openTo("a", "a"):            api.ErrRange,
		openTo("", "\x00"):          api.ErrRange,
		rng(tooLongKey, "z"):        api.ErrKey,
		rng("a", tooLongKey):        api.ErrKey,
		rng(tooLongKey, tooLongKey): api.ErrKey,
		rng(tooLongKey, "a"):        api.ErrKey,
		rng("", highest+"\x00"):     api.ErrKey,
		from(tooLongKey):            api.ErrKey,
		openTo("a", tooLongKey):     api.ErrKey,
		openTo(tooLongKey, "b"):     api.ErrKey,
	}
}

// P11.2, 2
func TestRangesThatMayNotBe(t *testing.T) {
	ahead := items(rng("", "\x00"))
	for r, want := range wrongRanges() {
		for _, p := range parts(print(r, tally(0, 0, 0)), items(r), items(r, at("a")), reply(r, at("a"))) {
			asked(t, "alone", parts(p), want)
			asked(t, "behind another one", parts(ahead, p), want)
			asked(t, "ahead of another one", parts(p, print(from("z"), tally(0, 0, 0))), want)
		}
	}
}

// P11.2, 3
func TestRangesThatDoNotRise(t *testing.T) {
	empty := []api.Range{rng("", ""), rng("b", "b"), rng(highest, highest), rng("\x00", "\x00")}
	for _, r := range empty {
		for _, p := range parts(print(r, tally(0, 0, 0)), items(r), items(r, at(r.Lo)), reply(r, at(r.Lo))) {
			asked(t, "an empty range", parts(p), api.ErrTiles)
			asked(t, "an empty range behind", parts(print(rng("", "\x00"), tally(0, 0, 0)), p), api.ErrTiles)
			asked(t, "an empty range ahead", parts(p, print(whole(), tally(0, 0, 0))), api.ErrTiles)
		}
	}
	for _, l := range [][]api.Range{
		{whole(), whole()},
		{whole(), rng("a", "b")},
		{from("a"), rng("b", "c")},
		{from("b"), rng("", "b")},
		{from("a"), from("b")},
		{rng("a", "c"), rng("b", "d")},
		{rng("a", "c"), rng("a", "c")},
		{rng("a", "c"), rng("a", "b")},
		{rng("a", "c"), rng("", "a")},
		{rng("a", "c"), rng("", "\x00")},
		{rng("a", "c"), whole()},
		{rng("a", "c\x00"), rng("c", "d")},
		{rng("a", "\x80"), rng("\x7F", "\xFF")},
		{rng("a", highest), from(highest[:15])},
		{rng("a", "c"), rng("c", "d"), rng("b", "c")},
		{rng("a", "c"), rng("d", "e"), rng("c", "d")},
		{rng("a", "c"), from("d"), from("e")},
	} {
		last := len(l) - 1
		asked(t, "the one ahead", ofRanges(l[:last]), api.OK)
		asked(t, "ranges that do not rise", ofRanges(l), api.ErrTiles)
	}
}

// ofRanges are parts of these ranges, of each kind by turns.
func ofRanges(l []api.Range) []api.Part {
	var parts []api.Part
	for i, r := range l {
		switch i % 3 {
		case 0:
			parts = append(parts, print(r, tally(1, 2, 3)))
		case 1:
			parts = append(parts, items(r))
		case 2:
			parts = append(parts, reply(r, at(r.Lo)))
		}
	}
	return parts
}

// P11.2, 3
func TestRangesThatRise(t *testing.T) {
	for _, l := range [][]api.Range{
		{whole()},
		{rng("", "a"), from("a")},
		{rng("a", "b"), rng("b", "c"), rng("c", "d")},
		{rng("a", "b"), rng("b\x00", "c"), from("x")},
		{rng("", "\x00"), rng("\x00", lowest), rng(lowest, "\x01"), rng(highest[:15], highest), from(highest)},
		{rng("\x7F", "\x80"), rng("\x80", "\x81"), from("\xFF")},
	} {
		asked(t, "ranges that rise", ofRanges(l), api.OK)
	}
}

// P11.2, 4
func TestTalliesOfPrints(t *testing.T) {
	for _, x := range []struct {
		sum  api.Tally
		want api.Errno
	}{
		{tally(0, 0, 0), api.OK},
		{tally(1, 0, 0), api.OK},
		{tally(1, math.MaxUint64, 1), api.OK},
		{tally(mostEntries, 0, 0), api.OK},
		{tally(mostEntries, 1, math.MaxUint64), api.OK},
		{tally(mostEntries+1, 0, 0), api.ErrTally},
		{tally(mostEntries+1, 1, 1), api.ErrTally},
		{tally(-1, 0, 0), api.ErrTally},
		{tally(-1, 5, 5), api.ErrTally},
		{tally(math.MinInt, 0, 0), api.ErrTally},
		{tally(math.MaxInt, 0, 0), api.ErrTally},
		{tally(1<<32, 0, 0), api.ErrTally},
		{tally(0, 1, 0), api.ErrTally},
		{tally(0, 0, 1), api.ErrTally},
		{tally(0, 1<<63, 0), api.ErrTally},
		{tally(0, 0, 1<<32), api.ErrTally},
		{tally(0, math.MaxUint64, 1), api.ErrTally},
	} {
		asked(t, "of the whole", parts(print(whole(), x.sum)), x.want)
		asked(t, "of a piece, behind another one", parts(items(rng("", "a")), print(rng("a", "b"), x.sum)), x.want)
		asked(t, "of a piece, ahead of another one", parts(print(rng("a", "b"), x.sum), items(rng("b", "c"))), x.want)
	}
}

// P11.2, 5 and 6
func TestEntriesOfParts(t *testing.T) {
	for _, x := range []struct {
		what string
		r    api.Range
		l    []api.Entry
		want api.Errno
	}{
		{"at the beginning", rng("a", "c"), under("a"), api.OK},
		{"just below the end", rng("a", "c"), under("b\xFF\xFF\xFF\xFF\xFF\xFF\xFF\xFF\xFF\xFF\xFF\xFF\xFF\xFF\xFF"), api.OK},
		{"rising", rng("a", "c"), under("a", "a\x00", "aa", "b"), api.OK},
		{"the empty key", rng("", "\x00"), under(""), api.OK},
		{"the longest keys", whole(), under(lowest, longKey, highest), api.OK},
		{"in an Open one", from("b"), under("b", highest), api.OK},
		{"at the greatest of all", whole(), []api.Entry{entry("a", greatest, 7, longValue)}, api.OK},
		{"dead", whole(), []api.Entry{dead("a", 1, 0)}, api.OK},

		{"at the end", rng("a", "c"), under("c"), api.ErrItems},
		{"above the end", rng("a", "c"), under("d"), api.ErrItems},
		{"below the beginning", rng("a", "c"), under("`"), api.ErrItems},
		{"the empty key, below", rng("a", "c"), under(""), api.ErrItems},
		{"below an Open one", from("b"), under("a"), api.ErrItems},
		{"the last one outside", rng("a", "c"), under("a", "b", "c"), api.ErrItems},
		{"twice the same", rng("a", "c"), under("a", "a"), api.ErrItems},
		{"twice the empty key", rng("", "c"), under("", ""), api.ErrItems},
		{"falling", rng("a", "c"), under("b", "a"), api.ErrItems},
		{"falling at last", rng("a", "c"), under("a", "b", "ab"), api.ErrItems},
		{"the longer one ahead", rng("a", "c"), under("aa", "a"), api.ErrItems},

		{"the zero Entry", whole(), []api.Entry{{}}, api.ErrVersion},
		{"a long key", whole(), []api.Entry{at(tooLongKey)}, api.ErrKey},
		{"a Counter of 0", whole(), []api.Entry{entry("a", 0, 0, "")}, api.ErrVersion},
		{"a Counter below 0", whole(), []api.Entry{entry("a", -1, 0, "")}, api.ErrVersion},
		{"a Counter too great", whole(), []api.Entry{entry("a", greatest+1, 0, "")}, api.ErrVersion},
		{"the least Counter", whole(), []api.Entry{entry("a", math.MinInt, 0, "")}, api.ErrVersion},
		{"the greatest Counter", whole(), []api.Entry{entry("a", math.MaxInt, 0, "")}, api.ErrVersion},
		{"a Node too great", whole(), []api.Entry{entry("a", 1, 8, "")}, api.ErrVersion},
		{"a Node below 0", whole(), []api.Entry{entry("a", 1, -1, "")}, api.ErrVersion},
		{"a long value", whole(), []api.Entry{entry("a", 1, 0, tooLongValue)}, api.ErrValue},
		{"dead with a value", whole(), []api.Entry{{Key: "a", Version: api.Version{Counter: 1}, Value: "v", Dead: true}}, api.ErrDead},
		{"the last one wrong", whole(), append(under("a", "b", "c"), dead("d", 0, 0)), api.ErrVersion},
	} {
		asked(t, x.what+", Items", parts(items(x.r, x.l...)), x.want)
		asked(t, x.what+", Reply", parts(reply(x.r, x.l...)), x.want)
		before, behind := print(rng("", x.r.Lo), tally(1, 1, 1)), print(from(x.r.Hi), tally(1, 1, 1))
		if x.r.Lo != "" {
			asked(t, x.what+", behind a Print", parts(before, items(x.r, x.l...)), x.want)
		}
		if !x.r.Open {
			asked(t, x.what+", ahead of a Print", parts(reply(x.r, x.l...), behind), x.want)
		}
	}
}

// P11.2, 5: entries are held against their own part's range, and against those ahead of them in it.
func TestEntriesOfNeighbours(t *testing.T) {
	ab, bc := rng("a", "b"), rng("b", "c")
	asked(t, "each in its own", parts(items(ab, at("a")), reply(bc, at("b"))), api.OK)
	asked(t, "each in the other's", parts(items(ab, at("b")), reply(bc, at("a"))), api.ErrItems)
	asked(t, "all in the first", parts(items(ab, at("a"), at("b")), items(bc)), api.ErrItems)
	asked(t, "all in the last", parts(items(ab), items(bc, at("a"), at("b"))), api.ErrItems)
	asked(t, "none in either", parts(items(ab), items(bc)), api.OK)
}

// P11.2, 6
func TestNoEntries(t *testing.T) {
	for _, l := range [][]api.Entry{nil, {}, under("a")[:0]} {
		asked(t, "Items without any", parts(items(rng("a", "b"), l...)), api.OK)
		asked(t, "a Reply without any", parts(reply(rng("a", "b"), l...)), api.ErrItems)
		asked(t, "a Reply without any, behind", parts(items(rng("a", "b"), at("a")), reply(rng("b", "c"), l...)), api.ErrItems)
		asked(t, "a Reply without any, ahead", parts(reply(rng("a", "b"), l...), items(rng("b", "c"))), api.ErrItems)
	}
}

// R3: what lies behind a list's length is not asked.
func TestSpareRoomIsNotAsked(t *testing.T) {
	l := append(withEntries(3, 3), make([]api.Part, mostParts)...)[:3]
	for i := range l {
		l[i].Entries = append(slices.Clone(l[i].Entries), make([]api.Entry, mostEntries)...)[:1]
	}
	asked(t, "spare room", l, api.OK)
}
