package store_test

import (
	"math/rand/v2"
	"slices"
	"testing"

	"tideline/api"
	"tideline/store"
)

// anyText is now and then too long.
func anyText(rnd *rand.Rand, least, max int) string {
	b := make([]byte, least+rnd.IntN(max+1-least))
	if rnd.IntN(30) == 0 {
		b = make([]byte, max+1)
	}
	for i := range b {
		b[i] = []byte{0, 'a', 'b', 255}[rnd.IntN(4)]
	}
	return string(b)
}

// anyEntry is of a Counter around the clock, and now and then may not be.
func anyEntry(rnd *rand.Rand, clock int, key string) api.Entry {
	e := entry(key, clock-10+rnd.IntN(15), rnd.IntN(8), anyText(rnd, 0, 32))
	if rnd.IntN(3) == 0 {
		e.Dead, e.Value = true, ""
	}
	if rnd.IntN(40) == 0 {
		e.Version.Node = 8
	}
	if rnd.IntN(40) == 0 {
		e.Dead = !e.Dead
	}
	return e
}

// upward holds what is held now against what was held: P8.10.
func upward(t *testing.T, s *store.Store, before []api.Entry, clock int) {
	t.Helper()
	if s.Clock() < clock {
		t.Fatalf("the clock fell from %d to %d", clock, s.Clock())
	}
	for _, old := range before {
		e, is, wrong := s.Get(old.Key)
		if !is || wrong != api.OK {
			t.Fatalf("%v gave way to none", old)
		}
		if e != old && !newer(e.Version, old.Version) {
			t.Fatalf("%v gave way to %v", old, e)
		}
		if e.Version.Counter > s.Clock() {
			t.Fatalf("%v is above the clock %d", e, s.Clock())
		}
	}
}

// aboveAll asks that a version is newer than all that was held: P8.10.
func aboveAll(t *testing.T, v api.Version, before []api.Entry) {
	t.Helper()
	for _, old := range before {
		if !newer(v, old.Version) {
			t.Fatalf("what is written is of %v, beside %v", v, old)
		}
	}
}

// P8.10, W1: any calls, each held against a plain list; some stores begin worn, or nearly so, and some are full soon.
func TestAnyCalls(t *testing.T) {
	for seed := range uint64(12) {
		rnd := rand.New(rand.NewPCG(810, seed))
		node, clock := rnd.IntN(8), []int{0, 50, greatest - 60}[seed%3]
		s, p := loaded(t, node, clock), &plain{node: node, clock: clock}
		keys := append(oddKeys(), tooLongKey)
		if seed%2 == 0 {
			keys = append(keys, numbered(most)...)
		}
		for n := range 1200 {
			before, was := slices.Clone(p.held), p.clock
			key := keys[rnd.IntN(len(keys))]
			if rnd.IntN(3) == 0 {
				key = anyText(rnd, 0, 16)
			}
			fewJoins(t, s, "a call", func() { anyCall(t, rnd, s, p, key) })
			upward(t, s, before, was)
			if n%600 == 599 {
				same(t, s, p)
			}
		}
	}
}

func anyCall(t *testing.T, rnd *rand.Rand, s *store.Store, p *plain, key string) {
	t.Helper()
	before := slices.Clone(p.held)
	switch rnd.IntN(4) {
	case 0:
		value := anyText(rnd, 0, 32)
		want, wrong := p.put(key, value)
		v, e := s.Put(key, value)
		if v != want || e != wrong {
			t.Fatalf("Put(%q, %q): %v, %d, want %v, %d", key, value, v, e, want, wrong)
		}
		if e == api.OK {
			aboveAll(t, v, before)
		}
	case 1:
		want, wrong := p.del(key)
		v, e := s.Delete(key)
		if v != want || e != wrong {
			t.Fatalf("Delete(%q): %v, %d, want %v, %d", key, v, e, want, wrong)
		}
		if e == api.OK {
			aboveAll(t, v, before)
		}
	default:
		sameTake(t, s, p, anyEntry(rnd, p.clock, key))
	}
}

// P8.10: what is written is newer than what was taken of a greater node with the same Counter.
func TestWrittenIsNewest(t *testing.T) {
	for node := range 8 {
		s := newStore(t, node)
		for counter := 1; counter < 40; counter += 2 {
			for other := range 8 {
				s.Take(entry("k"+string(rune('0'+other)), counter, other, ""))
			}
			before := allOf(t, s, whole())
			v, e := s.Put("mine", "")
			if e != api.OK || v != version(counter+1, node) {
				t.Fatalf("Put: %v, %d", v, e)
			}
			aboveAll(t, v, before)
		}
	}
}

// P8.11: entries of a few keys, several versions of each, in every order.
func TestTakenInEveryOrder(t *testing.T) {
	l := []api.Entry{entry("a", 1, 0, "x"), entry("a", 1, 1, "y"), dead("a", 2, 0), entry("b", 7, 7, "z"), dead("b", 7, 6), entry("", 3, 0, "")}
	want := &plain{4, 7, []api.Entry{entry("", 3, 0, ""), dead("a", 2, 0), entry("b", 7, 7, "z")}}
	for _, order := range permutations(l) {
		s := newStore(t, 4)
		for _, e := range order {
			if _, wrong := s.Take(e); wrong != api.OK {
				t.Fatalf("Take(%v): %d", e, wrong)
			}
		}
		if got := allOf(t, s, whole()); !slices.Equal(got, want.held) || s.Clock() != want.clock {
			t.Fatalf("%v make %v, clock %d", order, got, s.Clock())
		}
		if f := foldOf(t, s, whole()); f != tallyOf(want.held) {
			t.Fatalf("%v come to %v", order, f)
		}
	}
}

func permutations(l []api.Entry) [][]api.Entry {
	if len(l) == 0 {
		return [][]api.Entry{nil}
	}
	var all [][]api.Entry
	for i := range l {
		rest := slices.Delete(slices.Clone(l), i, i+1)
		for _, order := range permutations(rest) {
			all = append(all, append([]api.Entry{l[i]}, order...))
		}
	}
	return all
}

// P8.11: many entries, as many keys as may be, in many orders: the same answers to all.
func TestTakenInAnyOrder(t *testing.T) {
	rnd := rand.New(rand.NewPCG(8, 11))
	keys := numbered(most)
	var l []api.Entry
	for i := range 1500 {
		// No two of one version: each of those was written once.
		e := entry(keys[rnd.IntN(most)], i/8+1, i%8, "v"+anyText(rnd, 0, 20))
		if i%5 == 0 {
			e.Dead, e.Value = true, ""
		}
		l = append(l, e)
	}
	p := &plain{node: 3}
	for _, e := range l {
		p.take(e)
	}
	for range 12 {
		s := newStore(t, 3)
		for _, e := range shuffled(rnd, l) {
			fewJoins(t, s, "Take", func() {
				if _, wrong := s.Take(e); wrong != api.OK {
					t.Fatalf("Take(%v): %d", e, wrong)
				}
			})
		}
		same(t, s, p)
	}
}

// P8.11, P8.2: a store that was loaded is as one that took the same entries, whatever else became of that one.
func TestLoadedAndTaken(t *testing.T) {
	l := entriesOf(numbered(120))
	taken, loadedOne := newStore(t, 2), loaded(t, 2, 120, l...)
	for _, e := range shuffled(rand.New(rand.NewPCG(8, 2)), l) {
		taken.Take(e)
	}
	p := &plain{2, 120, l}
	same(t, taken, p)
	same(t, loadedOne, p)
	for i, key := range numbered(150) {
		q := p.clone()
		if i%2 == 0 {
			samePut(t, taken, p, key, "v")
			samePut(t, loadedOne, q, key, "v")
		} else {
			sameDelete(t, taken, p, key)
			sameDelete(t, loadedOne, q, key)
		}
	}
	same(t, taken, p)
	same(t, loadedOne, p)
}

// R5: the same calls answer alike, joins too.
func TestOneAnswer(t *testing.T) {
	run := func() (*store.Store, []int) {
		rnd := rand.New(rand.NewPCG(5, 8))
		s, p := newStore(t, 1), &plain{node: 1}
		var joins []int
		for range 400 {
			anyCall(t, rnd, s, p, anyText(rnd, 0, 3))
			s.Fold(from(anyText(rnd, 0, 3)))
			joins = append(joins, s.Joins())
		}
		return s, joins
	}
	first, joins := run()
	second, again := run()
	if !slices.Equal(joins, again) {
		t.Error("the joins differ")
	}
	if !slices.Equal(allOf(t, first, whole()), allOf(t, second, whole())) {
		t.Error("the maps differ")
	}
}
