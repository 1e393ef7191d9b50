package match_test

import (
	"math/rand/v2"
	"slices"
	"strconv"
	"strings"
	"testing"

	"tideline/api"
	"tideline/store"
)

// P13.3: the chapter's rows.
func TestExchangeRows(t *testing.T) {
	s := holding(t, abc())
	newer := entry("b", 9, 1, "")
	l, h := exchanged(t, s, items(rng("a", "c"), newer))
	if want := parts(reply(rng("a", "c"), abc()[0])); !same(l, want) || h != (api.Heard{Taken: 1}) {
		t.Errorf("Items: %s, %v", brief(l...), h)
	}
	isAs(t, "behind the Items", s, 9, list(abc()[0], newer, abc()[2]))
	l, h = exchanged(t, s, reply(whole(), entry("c", 2, 0, "")))
	if len(l) != 0 || h != (api.Heard{}) {
		t.Errorf("Reply: %s, %v", brief(l...), h)
	}
	isAs(t, "behind the Reply", s, 9, list(abc()[0], newer, abc()[2]))
}

// P13.3: an entry that is older than what is held, as new, newer, or under a key of which nothing is held; living and dead ones.
func TestExchangeOfOneEntry(t *testing.T) {
	const key = "m"
	for _, own := range []api.Entry{entry(key, 5, 3, "own"), dead(key, 5, 3)} {
		for _, x := range []struct {
			what   string
			e      api.Entry
			taken  int
			lacked bool
		}{
			{"a lower Counter", entry(key, 4, 3, "x"), 0, true},
			{"a lower Counter, a greater Node", entry(key, 4, 7, "x"), 0, true},
			{"a dead one with a lower Counter", dead(key, 1, 0), 0, true},
			{"a lower Node", entry(key, 5, 2, "x"), 0, true},
			{"a dead one with a lower Node", dead(key, 5, 0), 0, true},
			{"the same version", entry(key, 5, 3, "own"), 0, false},
			{"the same version, another value", entry(key, 5, 3, "x"), 0, false},
			{"the same version, dead", dead(key, 5, 3), 0, false},
			{"a greater Node", entry(key, 5, 4, "x"), 1, false},
			{"a dead one with a greater Node", dead(key, 5, 7), 1, false},
			{"a greater Counter", entry(key, 6, 3, "x"), 1, false},
			{"a greater Counter, a lower Node", entry(key, 6, 0, ""), 1, false},
			{"a dead one with the greatest Counter", dead(key, greatest, 0), 1, false},
		} {
			for _, r := range []api.Range{whole(), from(key), rng("a", "z"), rng(key, key+"\x00")} {
				held := own
				if x.taken == 1 {
					held = x.e
				}
				s := holding(t, list(own))
				l, h := exchanged(t, s, items(r, x.e))
				if is := len(l) == 1 && samePart(l[0], reply(r, own)); is != x.lacked || !is && len(l) > 0 || h != (api.Heard{Taken: x.taken}) {
					t.Errorf("%s: Items: %s, %v", x.what, brief(l...), h)
				}
				isAs(t, x.what, s, held.Version.Counter, list(held))
				s = holding(t, list(own))
				l, h = exchanged(t, s, reply(r, x.e))
				if len(l) > 0 || h != (api.Heard{Taken: x.taken}) {
					t.Errorf("%s: a Reply: %s, %v", x.what, brief(l...), h)
				}
				isAs(t, x.what, s, held.Version.Counter, list(held))
			}
		}
	}
}

// P13.3: entries under keys of which nothing is held are taken, in stores of all sizes; the clock goes with them.
func TestExchangeOfNewKeys(t *testing.T) {
	for _, held := range [][]api.Entry{nil, abc(), many(200)} {
		for _, kind := range []int{2, 3} {
			p := items(whole(), entry("", 1, 7, ""), dead("a\x00", 1000, 0), entry("x", 7, 7, longValue), dead(highest, 2, 1))
			p.Kind = kind
			s, m := holding(t, held), plainOf(held)
			l, h := exchanged(t, s, p)
			want, _ := m.exchange(p)
			if !same(l, want) || h != (api.Heard{Taken: 4}) || s.Clock() != 1000 {
				t.Errorf("%d entries: %s: %s, %v, clock %d", len(held), brief(p), brief(l...), h, s.Clock())
			}
			isAs(t, "new keys", s, 1000, m.held)
		}
	}
}

// P13.3: Items without entries, of a nil list and of an empty one, ask for all that is held in the range.
func TestExchangeOfNoEntries(t *testing.T) {
	for _, held := range sampleMaps() {
		m := plainOf(held)
		for _, r := range sampleRanges() {
			for _, none := range [][]api.Entry{nil, {}, many(3)[:0]} {
				s := holding(t, held)
				l, h := exchanged(t, s, items(r, none...))
				want := parts(reply(r, m.in(r)...))
				if len(m.in(r)) == 0 {
					want = nil
				}
				if !same(l, want) || h != (api.Heard{}) {
					t.Fatalf("%d entries: Items of %#v without entries: %s, %v, want %s", len(held), r, brief(l...), h, brief(want...))
				}
				isAs(t, "no entries", s, m.clock, held)
			}
		}
	}
}

// P13.3: a Reply is never answered, whatever is held that it does not have.
func TestReplyIsNotAnswered(t *testing.T) {
	for _, held := range sampleMaps() {
		for _, e := range list(entry("", 1, 0, ""), dead("a", 3, 0), entry("k\x00\x05", 1, 0, "old"), entry(highest, greatest, 7, "new")) {
			s := holding(t, held)
			if l, _ := exchanged(t, s, reply(whole(), e)); len(l) > 0 {
				t.Errorf("%d entries: a Reply with %s: %s", len(held), quoted(e), brief(l...))
			}
			asExchanged(t, held, reply(whole(), e))
		}
	}
}

// P13.3: what is held beside the range is neither told nor changed.
func TestExchangeWithinTheRange(t *testing.T) {
	held := many(most)
	for _, count := range []int{1, 2, 17, 100} {
		for _, first := range []int{0, 1, 77, most - count} {
			for _, r := range around(first, count) {
				inside := held[first : first+count]
				if l, _ := exchanged(t, holding(t, held), items(r)); len(l) != 1 || !samePart(l[0], reply(r, inside...)) {
					t.Fatalf("%#v: %s", r, brief(l...))
				}
				asExchanged(t, held, items(r, under(numbered(first, count), 100)...))
				asExchanged(t, held, reply(r, under(numbered(first, count), 100)...))
			}
		}
	}
}

// P13.3: entries that come again are as new as what is held then: nothing is taken, and those that the sender has are not told.
func TestExchangeAgain(t *testing.T) {
	for _, held := range [][]api.Entry{nil, abc(), under(oddKeys(), 0), many(33)} {
		for _, p := range parts(items(whole(), under(oddKeys(), 3)...), reply(whole(), under(oddKeys(), 3)...), items(rng("a", "c"), under([]string{"a", "b"}, 1)...)) {
			s := holding(t, held)
			first, h := exchanged(t, s, p)
			if len(held) == 0 && h.Taken != len(p.Entries) {
				t.Errorf("%s: %v", brief(p), h)
			}
			unchanged(t, "the same entries again", s, func() {
				again, h := exchanged(t, s, p)
				if !same(first, again) || h != (api.Heard{}) {
					t.Errorf("%d entries: %s again: %s, %v; first %s", len(held), brief(p), brief(again...), h, brief(first...))
				}
			})
			all := heldIn(t, s, p.Range)
			if l, h := exchanged(t, s, items(p.Range, all...)); len(l) > 0 || h != (api.Heard{}) {
				t.Errorf("%d entries: all of its own: %s, %v", len(held), brief(l...), h)
			}
		}
	}
}

// fullBut is a store that has room for so many keys more.
func fullBut(t *testing.T, room int) (*store.Store, []api.Entry) {
	t.Helper()
	held := many(most - room)
	return holding(t, held), held
}

// P13.3: where there is no room entries under new keys are refused, and counted; newer ones under keys that are held are taken all the same.
func TestExchangeAtFullStores(t *testing.T) {
	for _, kind := range []int{2, 3} {
		for room := range 5 {
			s, held := fullBut(t, room)
			var l []api.Entry
			for i := range 4 {
				l = append(l, entry(held[i].Key, greatest, 0, "newer"), entry(held[i].Key+"+", 1, i, "new"))
			}
			l = append(l, entry(held[9].Key, 1, 0, "older"), entry("l", greatest, 7, "new"))
			p := items(whole(), l...)
			p.Kind = kind
			taken := min(room, 5)
			_, h := exchanged(t, s, p)
			if h != (api.Heard{Taken: 4 + taken, Refused: 5 - taken}) {
				t.Errorf("room for %d: %v", room, h)
			}
			for i := range 4 {
				if e, is, _ := s.Get(held[i].Key + "+"); is != (i < taken) || is && e.Value != "new" {
					t.Errorf("room for %d: the new entry %d: %s, %t", room, i, quoted(e), is)
				}
			}
			asExchanged(t, held, p)
		}
	}
}

// P13.3: of entries that are all refused nothing comes, not even the clock; what the sender lacks is told all the same.
func TestExchangeAllRefused(t *testing.T) {
	s, held := fullBut(t, 0)
	unchanged(t, "all refused", s, func() {
		l, h := exchanged(t, s, reply(from("l"), entry("l", greatest, 7, "x"), dead("m", greatest, 7)))
		if len(l) > 0 || h != (api.Heard{Refused: 2}) {
			t.Errorf("a Reply: %s, %v", brief(l...), h)
		}
		p := items(rng("k\x00\xFF", "z"), entry("k\x00\xFF+", greatest, 7, "x"), dead("m", greatest, 7))
		l, h = exchanged(t, s, p)
		if len(l) != 1 || !samePart(l[0], reply(p.Range, held[255])) || h != (api.Heard{Refused: 2}) {
			t.Errorf("Items: %s, %v", brief(l...), h)
		}
	})
}

// P13.3: as many entries as a frame has, to stores that hold nothing, other ones, older ones, newer ones.
func TestExchangeOfManyEntries(t *testing.T) {
	for _, held := range [][]api.Entry{nil, many(most), under(numbered(0, most), 128), under(numbered(128, most), 0), under(numbered(128, 128), 300), under(oddKeys(), 0)} {
		asExchanged(t, held, items(whole(), under(numbered(0, most), 64)...))
		asExchanged(t, held, reply(whole(), under(numbered(0, most), 64)...))
		asExchanged(t, held, items(from("k\x00\x80"), under(numbered(128, most), 64)...))
	}
}

// someMap has some of the keys, with versions that are few.
func someMap(rnd *rand.Rand, keys []string) []api.Entry {
	var l []api.Entry
	share := rnd.IntN(11)
	for i, key := range keys {
		counter, node := 1+rnd.IntN(4), rnd.IntN(3)
		switch {
		case rnd.IntN(10) >= share:
		case (i+counter+node)%4 == 0:
			l = append(l, dead(key, counter, node))
		default:
			l = append(l, entry(key, counter, node, strconv.Itoa(i)+"."+strconv.Itoa(counter)+"."+strconv.Itoa(node)))
		}
	}
	return l
}

func byKey(l []api.Entry) []api.Entry {
	slices.SortFunc(l, func(a, b api.Entry) int { return strings.Compare(a.Key, b.Key) })
	return l
}

// P13.3: any maps, ranges and entries, held against the second reading.
func TestAnyExchange(t *testing.T) {
	rnd := rand.New(rand.NewPCG(13, 3))
	for range 2000 {
		keys := [][]string{oddKeys(), numbered(0, 40), numbered(0, most)}[rnd.IntN(3)]
		held := someMap(rnd, keys)
		if rnd.IntN(8) == 0 {
			keys = slices.Sorted(slices.Values(slices.Concat(keys, numbered(512, most))))
			held = byKey(append(held, under(numbered(512, most-len(held)), 0)...))
		}
		r := rng(keys[rnd.IntN(len(keys))], keys[rnd.IntN(len(keys))])
		if r.Lo >= r.Hi {
			r = from(r.Hi)
		}
		l := plainOf(someMap(rnd, keys)).in(r)
		l = l[:min(len(l), most)]
		asExchanged(t, held, items(r, l...))
		if len(l) > 0 {
			asExchanged(t, held, reply(r, l...))
		}
	}
}
