package match_test

import (
	"fmt"
	"math"
	"slices"
	"strconv"
	"strings"
	"testing"

	"tideline/api"
	"tideline/match"
	"tideline/store"
)

const (
	most      = 256     // keys that a store holds, and entries of all parts together
	mostParts = 768     // of a frame
	greatest  = 1 << 40 // the greatest Counter that may be
)

var (
	lowest       = strings.Repeat("\x00", 16)
	highest      = strings.Repeat("\xFF", 16) // no key is above it
	longKey      = strings.Repeat("k", 16)
	tooLongKey   = strings.Repeat("k", 17)
	longValue    = strings.Repeat("v", 32)
	tooLongValue = strings.Repeat("v", 33)
)

func whole() api.Range { return api.Range{Open: true} }

func rng(lo, hi string) api.Range { return api.Range{Lo: lo, Hi: hi} }

func from(lo string) api.Range { return api.Range{Lo: lo, Open: true} }

func openTo(lo, hi string) api.Range { return api.Range{Lo: lo, Hi: hi, Open: true} }

func entry(key string, counter, node int, value string) api.Entry {
	return api.Entry{Key: key, Version: api.Version{Counter: counter, Node: node}, Value: value}
}

func dead(key string, counter, node int) api.Entry {
	return api.Entry{Key: key, Version: api.Version{Counter: counter, Node: node}, Dead: true}
}

func at(key string) api.Entry { return entry(key, 1, 0, "") }

func list(l ...api.Entry) []api.Entry { return l }

func parts(l ...api.Part) []api.Part { return l }

func tally(count int, lane0, lane1 uint64) api.Tally {
	return api.Tally{Count: count, Sum: api.Sum{lane0, lane1}}
}

func print(r api.Range, t api.Tally) api.Part { return api.Part{Kind: 1, Range: r, Tally: t} }

func items(r api.Range, l ...api.Entry) api.Part { return api.Part{Kind: 2, Range: r, Entries: l} }

func reply(r api.Range, l ...api.Entry) api.Part { return api.Part{Kind: 3, Range: r, Entries: l} }

// abc are the entries of the store of the chapter's examples.
func abc() []api.Entry {
	return list(entry("a", 1, 0, ""), entry("b", 2, 0, ""), entry("c", 3, 0, ""))
}

// oddKeys are keys, rising: the empty one, some that begin others, those at the edges, and such as lie side by side.
func oddKeys() []string {
	return []string{"", "\x00", "\x00\x00", lowest, "A", "a", "a\x00", "aa", "ab", "a\xFF", "b", "ba", longKey, "ä", "\xFF", "\xFF\x00", "\xFF\xFF", highest}
}

// numbered are n keys, rising, from the first-th one on.
func numbered(first, n int) []string {
	var l []string
	for i := first; i < first+n; i++ {
		l = append(l, "k"+string([]byte{byte(i >> 8), byte(i)}))
	}
	return l
}

// under are entries of these keys, by turns of each node, every third one dead; the Counters are mixed, from more on.
func under(keys []string, more int) []api.Entry {
	var l []api.Entry
	for i, key := range keys {
		counter := i*7%len(keys) + 1 + more
		if i%3 == 2 {
			l = append(l, dead(key, counter, i%8))
		} else {
			l = append(l, entry(key, counter, i%8, "v"+strconv.Itoa(i)))
		}
	}
	return l
}

// many are n entries.
func many(n int) []api.Entry { return under(numbered(0, n), 0) }

// sampleMaps are maps of all sorts: of no entry, of one, of few, of as many as a store holds.
func sampleMaps() [][]api.Entry {
	return [][]api.Entry{
		nil,
		{entry("", 1, 0, "")},
		{dead("m", 7, 3)},
		{entry(highest, greatest, 7, longValue)},
		abc(),
		under(oddKeys(), 0),
		many(2),
		many(16),
		many(33),
		many(most - 1),
		many(most),
	}
}

// sampleRanges are ranges that are not empty: at keys, between them, Open ones and others; in some nothing lies.
func sampleRanges() []api.Range {
	keys := numbered(0, most)
	return []api.Range{
		whole(), from("b"), from("\x00"), from(highest), from("ka"), from(keys[17]), from(keys[255]),
		rng("", "\x00"), rng("", "b"), rng("", highest), rng("a", "b"), rng("a", "c"), rng("a", "c\x00"), rng("a\x00", "b"), rng("x", "y"), rng(longKey, highest),
		rng(keys[0], keys[1]), rng(keys[1], keys[17]), rng(keys[1], keys[18]), rng(keys[3]+"\x00", keys[4]), rng(keys[100], keys[255]), rng(keys[100], keys[255]+"\x00"),
	}
}

// edges are numbers around each of these, as far as they are not below 0 and not above a store's room.
func edges(l ...int) []int {
	var around []int
	for _, n := range l {
		for _, m := range []int{n - 1, n, n + 1} {
			if m >= 0 && m <= most && !slices.Contains(around, m) {
				around = append(around, m)
			}
		}
	}
	return around
}

func clockOf(l []api.Entry) int {
	clock := 0
	for _, e := range l {
		clock = max(clock, e.Version.Counter)
	}
	return clock
}

// holding is a store that holds these entries, and whose clock is the greatest of their Counters.
func holding(t *testing.T, l []api.Entry) *store.Store {
	t.Helper()
	s, e := store.Load(5, clockOf(l), l)
	if e != api.OK {
		t.Fatalf("Load of %d entries: %d", len(l), e)
	}
	return s
}

func heldIn(t *testing.T, s *store.Store, r api.Range) []api.Entry {
	t.Helper()
	held, e := s.All(r)
	if e != api.OK {
		t.Fatalf("All(%#v): %d", r, e)
	}
	return slices.Collect(held)
}

// isAs asks that the store is the one of node 5, with these entries and that clock.
func isAs(t *testing.T, what string, s *store.Store, clock int, l []api.Entry) {
	t.Helper()
	if s.Node() != 5 || s.Clock() != clock || s.Len() != len(l) {
		t.Fatalf("%s: node %d, clock %d, %d entries; want 5, %d, %d", what, s.Node(), s.Clock(), s.Len(), clock, len(l))
	}
	if now := heldIn(t, s, whole()); !slices.Equal(now, l) {
		t.Fatalf("%s: the map is %s, want %s", what, quoted(now), quoted(l))
	}
}

// unchanged holds against a call that the store is another one behind it.
func unchanged(t *testing.T, what string, s *store.Store, call func()) {
	t.Helper()
	clock, held := s.Clock(), heldIn(t, s, whole())
	call()
	isAs(t, what, s, clock, held)
}

// untouched holds against a call that a later one could tell that it was made, by the store's joins too.
func untouched(t *testing.T, what string, s *store.Store, call func()) {
	t.Helper()
	joins := s.Joins()
	unchanged(t, what, s, call)
	if s.Joins() != joins {
		t.Fatalf("%s: %d joins, there were %d", what, s.Joins(), joins)
	}
}

func samePart(p, q api.Part) bool {
	return p.Kind == q.Kind && p.Range == q.Range && p.Tally == q.Tally && slices.Equal(p.Entries, q.Entries)
}

func same(a, b []api.Part) bool { return slices.EqualFunc(a, b, samePart) }

func compared(t *testing.T, s *store.Store, branch, leaf int, p api.Part) []api.Part {
	t.Helper()
	l, e := match.Compare(s, branch, leaf, p)
	if e != api.OK {
		t.Fatalf("Compare(%d, %d, %s): %d", branch, leaf, brief(p), e)
	}
	return l
}

func exchanged(t *testing.T, s *store.Store, p api.Part) ([]api.Part, api.Heard) {
	t.Helper()
	l, h, e := match.Exchange(s, p)
	if e != api.OK {
		t.Fatalf("Exchange(%s): %d", brief(p), e)
	}
	return l, h
}

func answered(t *testing.T, s *store.Store, branch, leaf int, l []api.Part) ([]api.Part, api.Heard) {
	t.Helper()
	answer, h, e := match.All(s, branch, leaf, l)
	if e != api.OK {
		t.Fatalf("All(%d, %d, %s): %d", branch, leaf, brief(l...), e)
	}
	return answer, h
}

// compareOrExchange asks for what All does of one part.
func compareOrExchange(t *testing.T, s *store.Store, branch, leaf int, p api.Part) ([]api.Part, api.Heard) {
	t.Helper()
	if p.Kind == api.PartPrint {
		return compared(t, s, branch, leaf, p), api.Heard{}
	}
	return exchanged(t, s, p)
}

// outside are numbers around those from lo to hi, none of them among these.
func outside(lo, hi int) []int {
	return []int{lo - 1, lo - 2, lo - 1000, math.MinInt32, math.MinInt, math.MinInt + 1, hi + 1, hi + 2, hi + 1000, math.MaxInt32, math.MaxInt - 1, math.MaxInt}
}

// quoted is what a failed test tells of what has keys and values, which may be any bytes.
func quoted(x any) string { return fmt.Sprintf("%q", fmt.Sprint(x)) }

// brief is what it tells of parts.
func brief(l ...api.Part) string {
	text := fmt.Sprintf("%+v", l)
	return fmt.Sprintf("%d parts: %q", len(l), text[:min(len(text), 400)])
}
