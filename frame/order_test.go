package frame_test

import (
	"math"
	"math/rand/v2"
	"slices"
	"testing"

	"tideline/api"
	"tideline/frame"
)

// flaw makes a part wrong by one of P11.2's rules; of is the kind of the parts that may have it, or 0 for each.
type flaw struct {
	what string
	rule int
	of   int
	make func(p *api.Part)
	e    api.Errno
}

// flaws are such of a part of {`b`, `d`} behind one that ends at `b`; each leaves the rest as it was.
func flaws() []flaw {
	withEntry := func(e api.Entry) func(p *api.Part) {
		return func(p *api.Part) { p.Entries = append(p.Entries, e) }
	}
	withRange := func(r api.Range) func(p *api.Part) {
		return func(p *api.Part) { p.Range = r }
	}
	withTally := func(t api.Tally) func(p *api.Part) {
		return func(p *api.Part) { p.Tally = t }
	}
	withKind := func(kind int) func(p *api.Part) {
		return func(p *api.Part) { p.Kind = kind }
	}
	return slices.Concat([]flaw{
		{"the kind 0", 1, 0, withKind(0), api.ErrPart},
		{"the kind 4", 1, 0, withKind(4), api.ErrPart},
		{"the least kind", 1, 0, withKind(math.MinInt), api.ErrPart},
		{"a Print with an entry", 1, 1, withEntry(at("b")), api.ErrPart},
		{"Items with a Count", 1, 2, withTally(tally(1, 0, 0)), api.ErrPart},
		{"a Reply with a Sum", 1, 3, withTally(tally(0, 0, 1)), api.ErrPart},
		{"a long Lo", 2, 0, withRange(rng(tooLongKey, "z")), api.ErrKey},
		{"a long Hi", 2, 0, withRange(rng("b", tooLongKey)), api.ErrKey},
		{"an inverted range", 2, 0, withRange(rng("d", "b")), api.ErrRange},
		{"an inverted range that begins too low", 2, 0, withRange(rng("a", "")), api.ErrRange},
		{"an Open range with an end", 2, 0, withRange(openTo("b", "d")), api.ErrRange},
		{"an empty range", 3, 0, withRange(rng("c", "c")), api.ErrTiles},
		{"a range that begins too low", 3, 0, withRange(rng("a", "d")), api.ErrTiles},
		{"the whole range", 3, 0, withRange(whole()), api.ErrTiles},
		{"a Count below 0", 4, 1, withTally(tally(-1, 0, 0)), api.ErrTally},
		{"a Count too great", 4, 1, withTally(tally(mostEntries+1, 1, 1)), api.ErrTally},
		{"a Sum of nothing", 4, 1, withTally(tally(0, 1, 0)), api.ErrTally},
		{"a Reply without entries", 6, 3, func(p *api.Part) { p.Entries = nil }, api.ErrItems},
	}, entryFlaws(2, withEntry), entryFlaws(3, withEntry))
}

func entryFlaws(kind int, with func(e api.Entry) func(p *api.Part)) []flaw {
	return []flaw{
		{"an entry with a long key", 5, kind, with(at("c" + longKey)), api.ErrKey},
		{"an entry without a version", 5, kind, with(entry("c", 0, 0, "")), api.ErrVersion},
		{"an entry with a long value", 5, kind, with(entry("c", 1, 0, tooLongValue)), api.ErrValue},
		{"a dead entry with a value", 5, kind, with(api.Entry{Key: "c", Version: api.Version{Counter: 1}, Value: "v", Dead: true}), api.ErrDead},
		{"an entry outside", 5, kind, with(at("d")), api.ErrItems},
		{"an entry not above the one ahead", 5, kind, with(at("b")), api.ErrItems},
	}
}

// between are three parts without a flaw, of which the second one, of {`b`, `d`}, is of that kind.
func between(kind int) []api.Part {
	p := items(rng("b", "d"), at("b"))
	p.Kind = kind
	if kind == 1 {
		p.Tally, p.Entries = tally(3, 4, 5), nil
	}
	return parts(reply(rng("a", "b"), at("a")), p, print(rng("d", "e"), tally(1, 2, 3)))
}

func (f flaw) fits(kind int) bool { return f.of == 0 || f.of == kind }

// P11.2: each flaw alone.
func TestOneFlaw(t *testing.T) {
	for kind := 1; kind <= 3; kind++ {
		asked(t, "none", between(kind), api.OK)
		for _, f := range flaws() {
			if f.fits(kind) {
				l := between(kind)
				f.make(&l[1])
				asked(t, f.what, l, f.e)
			}
		}
	}
}

// P11.2: of two flaws of one part that of the first rule is told.
func TestTwoFlawsInOnePart(t *testing.T) {
	both := 0
	for kind := 1; kind <= 3; kind++ {
		for _, first := range flaws() {
			for _, then := range flaws() {
				// No Reply has a wrong entry and no entries.
				if !first.fits(kind) || !then.fits(kind) || first.rule >= then.rule || first.rule == 5 {
					continue
				}
				l := between(kind)
				then.make(&l[1])
				first.make(&l[1])
				asked(t, first.what+" and "+then.what, l, first.e)
				both++
			}
		}
	}
	if both < 100 {
		t.Errorf("only %d pairs", both)
	}
}

// P11.2: of flaws of two parts that of the first part is told, whatever its rule.
func TestFlawsInTwoParts(t *testing.T) {
	for kind := 1; kind <= 3; kind++ {
		for _, f := range flaws() {
			if !f.fits(kind) {
				continue
			}
			for _, behind := range parts(
				api.Part{},
				api.Part{Kind: 4, Range: rng("d", "e")},
				api.Part{Kind: 1, Range: rng("d", "e"), Entries: under("d")},
				print(rng(tooLongKey, ""), tally(0, 0, 0)),
				print(rng("e", "d"), tally(0, 0, 0)),
				print(rng("d", "d"), tally(0, 0, 0)),
				print(rng("a", "e"), tally(0, 0, 0)),
				print(rng("d", "e"), tally(-1, 0, 0)),
				items(rng("d", "e"), api.Entry{}),
				items(rng("d", "e"), at("a")),
				reply(rng("d", "e")),
			) {
				l := between(kind)
				l[2] = behind
				asked(t, "the third part", l, plainParts(l))
				if frame.CheckParts(l) == api.OK {
					t.Errorf("the third part has no flaw")
				}
				f.make(&l[1])
				asked(t, f.what+", and another one behind", l, f.e)
				l[0] = reply(rng("a", "b"))
				asked(t, f.what+", and one ahead", l, api.ErrItems)
				l[0] = print(rng("a", "b"), tally(0, 1, 0))
				asked(t, f.what+", and one ahead", l, api.ErrTally)
				l[0] = items(rng("a", "b"), entry("a", 1, 0, tooLongValue))
				asked(t, f.what+", and one ahead", l, api.ErrValue)
			}
		}
	}
}

// P11.2: too many parts, or entries, is told ahead of all flaws.
func TestTooManyWithFlaws(t *testing.T) {
	for kind := 1; kind <= 3; kind++ {
		for _, f := range flaws() {
			if !f.fits(kind) {
				continue
			}
			l := between(kind)
			f.make(&l[1])
			more := append(slices.Clone(l), make([]api.Part, mostParts-len(l))...)
			asked(t, f.what+", as many parts as may be", more, f.e)
			asked(t, f.what+", too many parts", append(more, api.Part{}), api.ErrMany)
			l[2] = items(from("d"), make([]api.Entry, mostEntries)...)
			asked(t, f.what+", too many entries", l, api.ErrMany)
		}
	}
}

// P11.2, 5: entry by entry; of one entry item.Check's error first, in its order.
func TestTwoFlawsOfEntries(t *testing.T) {
	r := rng("b", "d")
	outside, twice := at("d"), at("b")
	wrong := []struct {
		x api.Entry
		e api.Errno
	}{
		{at("c" + longKey), api.ErrKey},
		{entry("c", 1, 8, ""), api.ErrVersion},
		{entry("c", 1, 0, tooLongValue), api.ErrValue},
		{api.Entry{Key: "c", Version: api.Version{Counter: 1}, Value: "v", Dead: true}, api.ErrDead},
	}
	for _, p := range parts(items(r), reply(r)) {
		with := func(l ...api.Entry) []api.Part {
			p.Entries = l
			return parts(p)
		}
		for _, w := range wrong {
			asked(t, "one outside ahead", with(outside, w.x), api.ErrItems)
			asked(t, "one outside behind", with(w.x, outside), w.e)
			asked(t, "one that does not rise ahead", with(at("b"), twice, w.x), api.ErrItems)
			asked(t, "one that does not rise behind", with(at("b"), w.x, twice), w.e)
			both := w.x
			both.Key = "a" + both.Key[1:]
			asked(t, "outside itself", with(both), w.e)
			asked(t, "outside, and not rising", with(at("b"), both), w.e)
			for _, other := range wrong {
				asked(t, "another one behind", with(w.x, other.x), w.e)
			}
		}
		asked(t, "all of one", with(api.Entry{Key: tooLongKey, Value: tooLongValue, Dead: true}), api.ErrKey)
		asked(t, "all but the key", with(api.Entry{Key: "z", Value: tooLongValue, Dead: true}), api.ErrVersion)
		asked(t, "all but the key and the version", with(api.Entry{Key: "z", Version: api.Version{Counter: 1}, Value: tooLongValue, Dead: true}), api.ErrValue)
	}
}

// P11.2: any parts, held against the second reading.
func TestAnyParts(t *testing.T) {
	rnd := rand.New(rand.NewPCG(11, 2))
	seen := map[api.Errno]int{}
	for range 300000 {
		l := someParts(rnd)
		e, want := frame.CheckParts(l), plainParts(l)
		if e != want {
			t.Fatalf("CheckParts(%+v): %d, want %d", l, e, want)
		}
		seen[e]++
	}
	for _, e := range []api.Errno{api.OK, api.ErrPart, api.ErrKey, api.ErrRange, api.ErrTiles, api.ErrTally, api.ErrVersion, api.ErrValue, api.ErrDead, api.ErrItems} {
		if seen[e] < 500 {
			t.Errorf("%d came %d times only", e, seen[e])
		}
	}
}

// someParts are few parts that rise, of which now and then a piece is another one.
func someParts(rnd *rand.Rand) []api.Part {
	keys := []string{"", "\x00", "a", "aa", "ab", "b", "c", longKey, "z", highest}
	var l []api.Part
	i := rnd.IntN(3)
	for len(l) < 4 && i < len(keys)-1 && rnd.IntN(5) > 0 {
		j := i + 1 + rnd.IntN(len(keys)-i-1)
		l = append(l, somePart(rnd, rng(keys[i], keys[j]), keys[i:j]))
		i = j + rnd.IntN(2)
	}
	if len(l) > 0 && rnd.IntN(3) == 0 {
		last := &l[len(l)-1]
		last.Range = from(last.Range.Lo)
	}
	for range rnd.IntN(3) {
		if len(l) > 0 {
			spoilPart(rnd, &l[rnd.IntN(len(l))])
		}
	}
	return l
}

func somePart(rnd *rand.Rand, r api.Range, keys []string) api.Part {
	if rnd.IntN(3) == 0 {
		return print(r, tally(1+rnd.IntN(mostEntries), rnd.Uint64(), rnd.Uint64()))
	}
	p := items(r, at(keys[0]))
	for _, key := range keys[1:] {
		if rnd.IntN(2) == 0 {
			p.Entries = append(p.Entries, entry(key, 1+rnd.IntN(9), rnd.IntN(8), "v"))
		}
	}
	p.Kind = 2 + rnd.IntN(2)
	return p
}

func spoilPart(rnd *rand.Rand, p *api.Part) {
	texts := []string{"", "\x00", "a", "ab", "b", "c", "z", highest, tooLongKey}
	text := texts[rnd.IntN(len(texts))]
	switch rnd.IntN(8) {
	case 0:
		p.Kind = rnd.IntN(5)
	case 1:
		p.Range.Lo = text
	case 2:
		p.Range.Hi = text
	case 3:
		p.Range.Open = !p.Range.Open
	case 4:
		p.Tally.Count = []int{0, -1, 1, mostEntries, mostEntries + 1, math.MinInt, math.MaxInt}[rnd.IntN(7)]
	case 5:
		p.Tally.Sum[rnd.IntN(2)] = uint64(rnd.IntN(2))
	case 6:
		p.Entries = nil
	case 7:
		if len(p.Entries) > 0 {
			spoilEntry(rnd, &p.Entries[rnd.IntN(len(p.Entries))], text)
		}
	}
}

func spoilEntry(rnd *rand.Rand, e *api.Entry, key string) {
	switch rnd.IntN(5) {
	case 0:
		e.Key = key
	case 1:
		e.Version.Counter = []int{0, greatest, greatest + 1, math.MaxInt}[rnd.IntN(4)]
	case 2:
		e.Version.Node = []int{-1, 0, 7, 8}[rnd.IntN(4)]
	case 3:
		e.Value = []string{"", longValue, tooLongValue}[rnd.IntN(3)]
	case 4:
		e.Dead = true
	}
}
