package match_test

import (
	"math/rand/v2"
	"slices"
	"testing"

	"tideline/api"
)

// P13.4: of no parts comes nothing, of a nil list and of an empty one.
func TestAllOfNoParts(t *testing.T) {
	for _, held := range sampleMaps() {
		for _, none := range [][]api.Part{nil, {}, parts(items(whole()))[:0]} {
			s := holding(t, held)
			untouched(t, "no parts", s, func() {
				if l, h := answered(t, s, 2, 1, none); len(l) > 0 || h != (api.Heard{}) {
					t.Errorf("%d entries: %s, %v", len(held), brief(l...), h)
				}
			})
		}
	}
}

// P13.4: of one part comes what Compare, or Exchange, tells of it.
func TestAllOfOnePart(t *testing.T) {
	for _, held := range sampleMaps() {
		for _, r := range []api.Range{whole(), from("k"), rng("a", "c"), rng("x", "y")} {
			for _, branch := range []int{2, 16} {
				for _, leaf := range []int{1, 32} {
					for _, p := range parts(print(r, tally(1, 2, 3)), plainOf(held).print(r), items(r), items(r, plainOf(under(oddKeys(), 50)).in(r)...), reply(r, entry(r.Lo, 60, 1, "x"))) {
						one, other := holding(t, held), holding(t, held)
						l, h := answered(t, one, branch, leaf, parts(p))
						want, heard := compareOrExchange(t, other, branch, leaf, p)
						if !same(l, want) || h != heard {
							t.Errorf("%d entries: All(%s): %s, %v, want %s, %v", len(held), brief(p), brief(l...), h, brief(want...), heard)
						}
						isAs(t, "one part", one, other.Clock(), heldIn(t, other, whole()))
					}
				}
			}
		}
	}
}

// P13.4: the parts that come of all stand one behind the other, in the order of what they answer.
func TestAllOfEachKind(t *testing.T) {
	s := holding(t, many(8))
	keys := numbered(0, 8)
	held := many(8)
	l, h := answered(t, s, 2, 1, parts(
		print(rng("", "a"), tally(1, 0, 0)),                                                        // nothing is held there: Items
		items(rng("a", keys[1])),                                                                   // a Reply
		print(rng(keys[1], keys[2]), plainTally(held[1:2])),                                        // the same: nothing
		print(rng(keys[2], keys[5]), api.Tally{}),                                                  // two Prints
		reply(rng(keys[5], keys[6]), entry(keys[5], 99, 0, "x")),                                   // taken
		items(rng(keys[6], keys[7]), entry(keys[6], 99, 1, "y"), entry(keys[6]+"\x00", 1, 0, "z")), // taken; no Reply
		print(rng(keys[7], keys[7]+"\x00"), api.Tally{}),                                           // Items
		items(from("l"), entry("l", 98, 0, ""), entry("m", 97, 0, "")),                             // taken
	))
	want := parts(
		items(rng("", "a")),
		reply(rng("a", keys[1]), held[0]),
		print(rng(keys[2], keys[3]), plainTally(held[2:3])), print(rng(keys[3], keys[5]), plainTally(held[3:5])),
		items(rng(keys[7], keys[7]+"\x00"), held[7]),
	)
	if !same(l, want) || h != (api.Heard{Taken: 5}) {
		t.Errorf("%s, %v, want %s", brief(l...), h, brief(want...))
	}
	if s.Clock() != 99 || s.Len() != 11 {
		t.Errorf("clock %d, %d entries", s.Clock(), s.Len())
	}
}

// P13.4: Taken and Refused are those of all parts; what the first ones take leaves less room for the later ones.
func TestAllRefuses(t *testing.T) {
	for room := range 8 {
		s, held := fullBut(t, room)
		l := parts(
			items(rng("a", "b"), at("a"), at("aa")),
			print(rng("b", "c"), tally(1, 1, 1)),
			reply(rng("k", "l"), entry(held[0].Key, greatest, 0, "newer"), entry(held[1].Key+"+", 1, 0, "new")),
			reply(rng("x", "y"), at("x"), at("xx"), at("xxx")),
			items(from("z")),
		)
		answer, h := answered(t, s, 2, 1, l)
		taken := min(room, 6)
		if h != (api.Heard{Taken: 1 + taken, Refused: 6 - taken}) || !same(answer, parts(items(rng("b", "c")))) {
			t.Errorf("room for %d: %s, %v", room, brief(answer...), h)
		}
		asAnswered(t, held, 2, 1, l)
	}
}

// lines are n ranges that touch, each with as many of the numbered keys; the last one is Open.
func lines(n, each int) []api.Range {
	keys := numbered(0, n*each)
	var l []api.Range
	for i := range n - 1 {
		l = append(l, rng(keys[i*each], keys[(i+1)*each]))
	}
	return append(l, from(keys[(n-1)*each]))
}

// P13.4: as many parts as a frame has, of each kind.
func TestAllOfMostParts(t *testing.T) {
	var prints, asking, mixed []api.Part
	for i, r := range lines(mostParts, 1) {
		prints = append(prints, print(r, tally(1, 1, 1)))
		asking = append(asking, items(r))
		switch {
		case i%3 == 0:
			mixed = append(mixed, reply(r, entry(r.Lo, 200, 1, "x")))
		case i%3 == 1:
			mixed = append(mixed, items(r))
		default:
			mixed = append(mixed, print(r, api.Tally{}))
		}
	}
	for _, held := range [][]api.Entry{nil, many(1), many(most), under(numbered(500, most), 0)} {
		for _, branch := range []int{2, 16} {
			if l := asAnswered(t, held, branch, 1, prints); len(l) != mostParts {
				t.Errorf("%d entries: %d Prints: %d parts", len(held), mostParts, len(l))
			}
			if l := asAnswered(t, held, branch, 1, asking); len(l) != len(held) {
				t.Errorf("%d entries: %d Items: %d parts", len(held), mostParts, len(l))
			}
			asAnswered(t, held, branch, 32, mixed)
		}
	}
}

// P13.4: the answers may be more than MaxParts parts.
func TestAllAnswersMoreThanMostParts(t *testing.T) {
	for _, x := range []struct{ ranges, branch, want int }{
		{1, 2, mostParts + 1},
		{1, 16, mostParts + 15},
		{16, 2, mostParts + 16},
		{16, 16, mostParts + 240},
	} {
		// The ranges that have entries have 16 each; behind them there are as many without any as a frame has room for.
		var l []api.Part
		for _, r := range lines(17, 16)[:x.ranges] {
			l = append(l, print(r, tally(1, 1, 1)))
		}
		for _, r := range lines(mostParts+300, 1)[300 : 300+mostParts-x.ranges] {
			l = append(l, print(r, tally(1, 1, 1)))
		}
		if answer := asAnswered(t, many(most), x.branch, 1, l); len(answer) != x.want {
			t.Errorf("%d ranges with 16 entries each, branch %d: %d parts, want %d", x.ranges, x.branch, len(answer), x.want)
		}
	}
}

// someParts are parts that may be, of all kinds: of what some map has, of nothing, or of other tallies.
func someParts(rnd *rand.Rand, keys []string) []api.Part {
	m := plainOf(someMap(rnd, keys))
	var l []api.Part
	room := most
	for i := rnd.IntN(3); i < len(keys)-1 && rnd.IntN(20) > 0; {
		j := min(i+1+rnd.IntN(1+rnd.IntN(len(keys))), len(keys)-1)
		r := rng(keys[i], keys[j])
		i = j + rnd.IntN(2)
		if i >= len(keys)-1 && rnd.IntN(2) == 0 {
			r = from(r.Lo)
		}
		p := somePart(rnd, m, r)
		if room -= len(p.Entries); room >= 0 {
			l = append(l, p)
		}
	}
	return l
}

func somePart(rnd *rand.Rand, m *plain, r api.Range) api.Part {
	held := m.in(r)
	switch n := rnd.IntN(5); {
	case n < 2:
		return m.print(r)
	case n == 2:
		return print(r, tally(1+rnd.IntN(most), rnd.Uint64(), rnd.Uint64()))
	case n == 3 && len(held) > 0:
		return reply(r, held[rnd.IntN(len(held)):]...)
	}
	return items(r, held...)
}

// P13.4: any maps and parts, held against the second reading.
func TestAnyParts(t *testing.T) {
	rnd := rand.New(rand.NewPCG(13, 4))
	seen := map[int]int{}
	for range 3000 {
		keys := [][]string{oddKeys(), numbered(0, 40), numbered(0, most)}[rnd.IntN(3)]
		held := someMap(rnd, keys)
		if rnd.IntN(6) == 0 {
			keys = slices.Concat(keys[:len(keys)/2], numbered(512, 30))
			held = byKey(append(someMap(rnd, keys), under(numbered(1024, most-len(keys)), 0)...))
			slices.Sort(keys)
		}
		for _, p := range asAnswered(t, held, 2+rnd.IntN(15), 1+rnd.IntN(32), someParts(rnd, keys)) {
			seen[p.Kind]++
		}
	}
	for kind := 1; kind <= 3; kind++ {
		if seen[kind] < 1000 {
			t.Errorf("parts of the kind %d came %d times only", kind, seen[kind])
		}
	}
}
