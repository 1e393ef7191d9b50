package store_test

import (
	"iter"
	"math"
	"math/rand/v2"
	"slices"
	"strconv"
	"strings"
	"testing"

	"tideline/api"
	"tideline/store"
)

const (
	most     = 256     // keys that a store holds
	greatest = 1 << 40 // the greatest Counter that may be
)

var (
	lowest       = strings.Repeat("\x00", 16)
	highest      = strings.Repeat("\xFF", 16) // no key is above it
	longKey      = strings.Repeat("k", 16)
	tooLongKey   = strings.Repeat("k", 17)
	longValue    = strings.Repeat("v", 32)
	tooLongValue = strings.Repeat("v", 33)
)

func whole() api.Range { return api.Range{Open: true} }

func rng(lo, hi string) api.Range { return api.Range{Lo: lo, Hi: hi} }

func from(lo string) api.Range { return api.Range{Lo: lo, Open: true} }

func openTo(lo, hi string) api.Range { return api.Range{Lo: lo, Hi: hi, Open: true} }

func version(counter, node int) api.Version { return api.Version{Counter: counter, Node: node} }

func entry(key string, counter, node int, value string) api.Entry {
	return api.Entry{Key: key, Version: version(counter, node), Value: value}
}

func dead(key string, counter, node int) api.Entry {
	return api.Entry{Key: key, Version: version(counter, node), Dead: true}
}

func newStore(t *testing.T, node int) *store.Store {
	t.Helper()
	s, e := store.New(node)
	if s == nil || e != api.OK {
		t.Fatalf("New(%d): %v, %d", node, s, e)
	}
	return s
}

func loaded(t *testing.T, node, clock int, l ...api.Entry) *store.Store {
	t.Helper()
	s, e := store.Load(node, clock, l)
	if s == nil || e != api.OK {
		t.Fatalf("Load(%d, %d, %v): %v, %d", node, clock, l, s, e)
	}
	return s
}

// oddKeys are keys, rising: the empty one, some that begin others, those at the edges, and such as lie side by side.
func oddKeys() []string {
	return []string{"", "\x00", "\x00\x00", lowest, "A", "a", "a\x00", "aa", "ab", "a\xFF", "b", "ba", longKey, "ä", "\xFF", "\xFF\x00", "\xFF\xFF", highest}
}

// numbered are n keys, rising.
func numbered(n int) []string {
	var l []string
	for i := range n {
		l = append(l, "k"+string([]byte{byte(i >> 8), byte(i)}))
	}
	return l
}

// entriesOf are entries of these keys, by turns of each node, every third one dead; the Counters are mixed, from 1 on to how many they are.
func entriesOf(keys []string) []api.Entry {
	var l []api.Entry
	for i, key := range keys {
		counter := i*7%len(keys) + 1
		if i%3 == 2 {
			l = append(l, dead(key, counter, i%8))
		} else {
			l = append(l, entry(key, counter, i%8, "v"+strconv.Itoa(i)))
		}
	}
	return l
}

// outside are numbers around those from lo to hi, none of them among these.
func outside(lo, hi int) []int {
	return []int{lo - 1, lo - 2, lo - 1000, math.MinInt32, math.MinInt, math.MinInt + 1, hi + 1, hi + 2, hi + 1000, math.MaxInt - 1, math.MaxInt}
}

func gone(entries iter.Seq[api.Entry]) []api.Entry {
	var l []api.Entry
	for e := range entries {
		l = append(l, e)
	}
	return l
}

func allOf(t *testing.T, s *store.Store, r api.Range) []api.Entry {
	t.Helper()
	entries, e := s.All(r)
	if e != api.OK || entries == nil {
		t.Fatalf("All(%#v): %d", r, e)
	}
	return gone(entries)
}

func scanOf(t *testing.T, s *store.Store, r api.Range) []api.Entry {
	t.Helper()
	entries, e := s.Scan(r)
	if e != api.OK || entries == nil {
		t.Fatalf("Scan(%#v): %d", r, e)
	}
	return gone(entries)
}

func foldOf(t *testing.T, s *store.Store, r api.Range) api.Tally {
	t.Helper()
	f, e := s.Fold(r)
	if e != api.OK {
		t.Fatalf("Fold(%#v): %d", r, e)
	}
	return f
}

func keysOf(l []api.Entry) []string {
	var keys []string
	for _, e := range l {
		keys = append(keys, e.Key)
	}
	return keys
}

// changesNothing holds against a call that a later one could tell that it was made, the store's joins too.
func changesNothing(t *testing.T, s *store.Store, what string, call func()) {
	t.Helper()
	node, clock, count, held := s.Node(), s.Clock(), s.Len(), allOf(t, s, whole())
	joins := s.Joins()
	call()
	if n := s.Joins(); n != joins {
		t.Errorf("%s: %d joins, there were %d", what, n, joins)
	}
	if s.Node() != node || s.Clock() != clock || s.Len() != count {
		t.Errorf("%s: node %d, clock %d, Len %d; they were %d, %d, %d", what, s.Node(), s.Clock(), s.Len(), node, clock, count)
	}
	if now := allOf(t, s, whole()); !slices.Equal(now, held) {
		t.Errorf("%s: the map is %v, it was %v", what, now, held)
	}
}

// bound goes by the words of P5.4.
func bound(n int) int {
	l := 0
	for power := 1; power < n+1; power *= 2 {
		l++
	}
	return 16 * (1 + l)
}

// fewJoins holds what a call joins against the bound of the keys that are held behind it.
func fewJoins(t *testing.T, s *store.Store, what string, call func()) {
	t.Helper()
	was := s.Joins()
	call()
	if n := s.Joins() - was; n < 0 || n > bound(s.Len()) {
		t.Fatalf("%s: %d joins, with %d keys: at most %d", what, n, s.Len(), bound(s.Len()))
	}
}

func shuffled[E any](rnd *rand.Rand, l []E) []E {
	l = slices.Clone(l)
	rnd.Shuffle(len(l), func(i, j int) { l[i], l[j] = l[j], l[i] })
	return l
}

// spoil writes over all of a list, and over its spare room.
func spoil[E any](l []E, with E) {
	l = l[:cap(l)]
	for i := range l {
		l[i] = with
	}
}
