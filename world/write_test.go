package world_test

import (
	"maps"
	"math/rand/v2"
	"slices"
	"strconv"
	"testing"

	"tideline/api"
	"tideline/mix"
	"tideline/tally"
	"tideline/world"
)

// P20.2: the chapter's row of writing and getting.
func TestWriteExamples(t *testing.T) {
	w := made(t, 2, plainConfig())
	tells(t, w, put(0, "a", "x"), api.Answer{Version: api.Version{Counter: 1, Node: 0}})
	tells(t, w, get(1, "a"), api.Answer{})
	refuses(t, w, put(2, "a", "x"), api.ErrNone)
	tells(t, w, get(0, "a"), api.Answer{Entries: list(entry("a", 1, 0, "x"))})
}

// P20.2: what each command of writing and reading tells: just what the table names.
func TestWriteAnswers(t *testing.T) {
	w := made(t, 3, plainConfig())
	tells(t, w, put(2, "a", "x"), api.Answer{Version: api.Version{Counter: 1, Node: 2}})
	tells(t, w, put(2, "b", ""), api.Answer{Version: api.Version{Counter: 2, Node: 2}})
	tells(t, w, remove(2, "a"), api.Answer{Version: api.Version{Counter: 3, Node: 2}})
	tells(t, w, remove(2, "nobody's"), api.Answer{Version: api.Version{Counter: 4, Node: 2}})
	tells(t, w, get(2, "a"), api.Answer{Entries: list(dead("a", 3, 2))})
	tells(t, w, get(2, "b"), api.Answer{Entries: list(entry("b", 2, 2, ""))})
	tells(t, w, get(2, "c"), api.Answer{})
	tells(t, w, put(2, "c", longValue), api.Answer{Version: api.Version{Counter: 5, Node: 2}})
	tells(t, w, scan(2, whole()), api.Answer{Entries: list(entry("b", 2, 2, ""), entry("c", 5, 2, longValue))})
	tells(t, w, scan(2, rng("b", "c")), api.Answer{Entries: list(entry("b", 2, 2, ""))})
	tells(t, w, scan(2, rng("a", "b")), api.Answer{})
	tells(t, w, mapOf(2), api.Answer{Entries: list(dead("a", 3, 2), entry("b", 2, 2, ""), entry("c", 5, 2, longValue), dead("nobody's", 4, 2))})
	for _, r := range []api.Range{whole(), rng("a", "b"), rng("b", "c"), from("c"), rng("x", "x"), from(highest)} {
		tells(t, w, fold(2, r), api.Answer{Tally: tally.All(within(w.Map(2), r))})
	}
	for n := range 2 {
		tells(t, w, mapOf(n), api.Answer{})
	}
}

// within are the entries of a list whose keys are in r.
func within(l []api.Entry, r api.Range) []api.Entry {
	return slices.DeleteFunc(slices.Clone(l), func(e api.Entry) bool { return e.Key < r.Lo || !r.Open && e.Key >= r.Hi })
}

// P20.2, W1: what a store refuses is the answer, and nothing is written: what is too long, what has no room, ranges that may not be.
func TestWriteErrors(t *testing.T) {
	w := made(t, 2, plainConfig())
	for _, key := range numbered(0, most-1) {
		all(t, w, put(0, key, ""))
	}
	all(t, w, put(0, longKey, longValue))
	refuses(t, w, put(0, tooLongKey, ""), api.ErrKey)
	refuses(t, w, put(0, tooLongKey, tooLongValue), api.ErrKey)
	refuses(t, w, put(0, "a", tooLongValue), api.ErrValue)
	refuses(t, w, put(0, "a", longValue), api.ErrFull)
	refuses(t, w, remove(0, "a"), api.ErrFull)
	refuses(t, w, remove(0, tooLongKey), api.ErrKey)
	refuses(t, w, get(0, tooLongKey), api.ErrKey)
	for _, o := range at(scan(0, whole()), fold(0, whole())) {
		for _, r := range []api.Range{rng("b", "a"), {Lo: "a", Hi: "b", Open: true}} {
			o.Range = r
			refuses(t, w, o, api.ErrRange)
		}
		for _, r := range []api.Range{from(tooLongKey), rng("a", tooLongKey)} {
			o.Range = r
			refuses(t, w, o, api.ErrKey)
		}
	}
	tells(t, w, put(0, longKey, "new"), api.Answer{Version: api.Version{Counter: most + 1}})
	tells(t, w, remove(0, longKey), api.Answer{Version: api.Version{Counter: most + 2}})
	all(t, w, put(1, "a", ""))
}

// P20.2: a clock at its end: nothing is written any more, but taken.
func TestWorn(t *testing.T) {
	w := fed(t, plainConfig(), list(entry("k", greatest, 1, "last")), nil)
	refuses(t, w, put(0, "a", ""), api.ErrWorn)
	refuses(t, w, put(0, "k", ""), api.ErrWorn)
	refuses(t, w, remove(0, "k"), api.ErrWorn)
	all(t, w, put(1, "b", ""))
	meet(t, w, 1, 0)
	for n := range 2 {
		tells(t, w, mapOf(n), api.Answer{Entries: list(entry("b", 1, 1, ""), entry("k", greatest, 1, "last"))})
		refuses(t, w, put(n, "k", ""), api.ErrWorn)
	}
}

// plainMap is a map of the language, and a clock: the rules of layer 8 for one node.
type plainMap struct {
	node, clock int
	held        map[string]api.Entry
}

func (m *plainMap) write(key, value string, gone bool) (api.Version, api.Errno) {
	_, is := m.held[key]
	switch {
	case len(key) > 16:
		return api.Version{}, api.ErrKey
	case len(value) > 32:
		return api.Version{}, api.ErrValue
	case !is && len(m.held) == most:
		return api.Version{}, api.ErrFull
	}
	m.clock++
	v := api.Version{Counter: m.clock, Node: m.node}
	m.held[key] = api.Entry{Key: key, Version: v, Value: value, Dead: gone}
	return v, api.OK
}

func (m *plainMap) get(key string) ([]api.Entry, api.Errno) {
	if len(key) > 16 {
		return nil, api.ErrKey
	}
	if e, is := m.held[key]; is {
		return list(e), api.OK
	}
	return nil, api.OK
}

// in are the entries in r, by their keys.
func (m *plainMap) in(r api.Range) ([]api.Entry, api.Errno) {
	switch {
	case len(r.Lo) > 16 || len(r.Hi) > 16:
		return nil, api.ErrKey
	case r.Open && r.Hi != "" || !r.Open && r.Lo > r.Hi:
		return nil, api.ErrRange
	}
	var l []api.Entry
	for _, key := range slices.Sorted(maps.Keys(m.held)) {
		l = append(l, m.held[key])
	}
	return within(l, r), api.OK
}

func isDead(e api.Entry) bool { return e.Dead }

// does is what the map says to a command of its node's.
func (m *plainMap) does(o api.Op) (a api.Answer, wrong api.Errno) {
	switch o.Kind {
	case 1:
		a.Version, wrong = m.write(o.Key, o.Value, false)
	case 2:
		a.Version, wrong = m.write(o.Key, "", true)
	case 3:
		a.Entries, wrong = m.get(o.Key)
	case 4:
		a.Entries, wrong = m.in(o.Range)
		a.Entries = slices.DeleteFunc(a.Entries, isDead)
	case 5:
		var l []api.Entry
		l, wrong = m.in(o.Range)
		a.Tally.Count = len(l)
		for _, e := range l {
			sum := mix.Of(e.Key, e.Version)
			a.Tally.Sum[0] += sum[0]
			a.Tally.Sum[1] += sum[1]
		}
	}
	return a, wrong
}

// someWrite is a command of writing or reading at that node, under one of these keys, or one that may not be.
func someWrite(rnd *rand.Rand, node int, keys []string) api.Op {
	someKey := func() string {
		if rnd.IntN(30) == 0 {
			return tooLongKey
		}
		return keys[rnd.IntN(len(keys))]
	}
	r := api.Range{Lo: someKey(), Hi: someKey()}
	if rnd.IntN(3) == 0 {
		r = api.Range{Lo: r.Lo, Open: true}
	} else if r.Lo > r.Hi && rnd.IntN(8) > 0 {
		r.Lo, r.Hi = r.Hi, r.Lo
	}
	value := "v" + strconv.Itoa(rnd.IntN(1000))
	if rnd.IntN(30) == 0 {
		value = tooLongValue
	}
	return api.Op{Kind: 1 + rnd.IntN(5), Node: node, Key: someKey(), Value: value, Range: r}
}

// W1, W2: whatever is written and read at one node, beside what the others do, is what a plain map says; and what Put, Delete and Fold join is bounded.
func TestPlainMap(t *testing.T) {
	for seed := range uint64(6) {
		rnd := rand.New(rand.NewPCG(seed, 201))
		w := made(t, 3, plainConfig())
		keys := slices.Concat(oddKeys(), numbered(0, []int{3, 40, most + 20}[seed%3]))
		ms := []*plainMap{}
		for n := range 3 {
			ms = append(ms, &plainMap{node: n, held: map[string]api.Entry{}})
		}
		for range 9000 {
			n := rnd.IntN(3)
			o := someWrite(rnd, n, keys)
			before := w.Joins(n)
			a, e := w.Do(o)
			joined := w.Joins(n) - before
			if want, wantError := ms[n].does(o); !same(a, want) || e != wantError {
				t.Fatalf("Do(%s): %s, %d, want %s, %d", quoted(o), quoted(a), e, quoted(want), wantError)
			}
			if joined > tally.Bound(len(ms[n].held)) {
				t.Fatalf("Do(%s): %d joins, %d keys are held", quoted(o), joined, len(ms[n].held))
			}
		}
		if seed%3 == 2 && len(ms[0].held) != most {
			t.Errorf("%d keys are held: the test tells little", len(ms[0].held))
		}
		for n := range 3 {
			l, _ := ms[n].in(whole())
			tells(t, w, mapOf(n), api.Answer{Entries: l})
		}
	}
}

// W2: a Fold of a great range joins no more than one of a small one may.
func TestFoldCost(t *testing.T) {
	w := made(t, 2, plainConfig())
	keys := numbered(0, most)
	for _, key := range keys {
		all(t, w, put(0, key, ""))
	}
	for lo := range most {
		for _, r := range []api.Range{from(keys[lo]), rng(keys[lo], highest), rng("", keys[lo])} {
			joins(t, w, fold(0, r), tally.Bound(most))
		}
	}
	for _, o := range at(put(0, keys[100], "x"), remove(0, keys[200]), put(0, keys[0], ""), remove(0, keys[most-1])) {
		joins(t, w, o, tally.Bound(most))
	}
	if tally.Bound(most) >= most {
		t.Errorf("%d: the test tells little", tally.Bound(most))
	}
}

// joins asks that node 0 joins no more tallies for a command than that.
func joins(t *testing.T, w *world.World, o api.Op, atMost int) {
	t.Helper()
	before := w.Joins(0)
	all(t, w, o)
	if n := w.Joins(0) - before; n > atMost {
		t.Fatalf("Do(%s): %d joins, at most %d may be", quoted(o), n, atMost)
	}
}
