package image_test

import (
	"fmt"
	"math/rand/v2"
	"slices"
	"testing"

	"tideline/api"
	"tideline/store"
)

// call is something that is done to a store; it tells all that the store answered.
type call struct {
	what string
	do   func(s *store.Store) string
}

func putCall(key, value string) call {
	return call{fmt.Sprintf("Put(%q, %q)", key, value), func(s *store.Store) string {
		v, e := s.Put(key, value)
		return fmt.Sprint(v, e)
	}}
}

func deleteCall(key string) call {
	return call{fmt.Sprintf("Delete(%q)", key), func(s *store.Store) string {
		v, e := s.Delete(key)
		return fmt.Sprint(v, e)
	}}
}

func getCall(key string) call {
	return call{fmt.Sprintf("Get(%q)", key), func(s *store.Store) string {
		held, is, e := s.Get(key)
		return fmt.Sprintf("%#v %t %d", held, is, e)
	}}
}

func takeCall(e api.Entry) call {
	return call{fmt.Sprintf("Take(%#v)", e), func(s *store.Store) string {
		is, wrong := s.Take(e)
		return fmt.Sprint(is, wrong)
	}}
}

func rangeCall(r api.Range) call {
	return call{fmt.Sprintf("Scan, All, Fold of %#v", r), func(s *store.Store) string {
		var living, all []api.Entry
		scan, e := s.Scan(r)
		if e == api.OK {
			living = slices.Collect(scan)
		}
		held, f := s.All(r)
		if f == api.OK {
			all = slices.Collect(held)
		}
		sum, g := s.Fold(r)
		return fmt.Sprintf("%#v %d %#v %d %v %d", living, e, all, f, sum, g)
	}}
}

func splitCall(r api.Range, parts int) call {
	return call{fmt.Sprintf("Split(%#v, %d)", r, parts), func(s *store.Store) string {
		l, e := s.Split(r, parts)
		return fmt.Sprintf("%#v %d", l, e)
	}}
}

func cloneCall(then call) call {
	return call{"a clone's " + then.what, func(s *store.Store) string {
		c := s.Clone()
		return fmt.Sprint(then.do(c), c.Node(), c.Clock(), c.Len())
	}}
}

// bound goes by the words of P5.4.
func bound(n int) int {
	l := 0
	for power := 1; power < n+1; power *= 2 {
		l++
	}
	return 16 * (1 + l)
}

// each does the same to several stores, and asks for the same answers. How often they join is not said, but that it never falls, nor rises by more than the bound (of a row of calls only one joins).
func each(t *testing.T, c call, stores ...*store.Store) {
	t.Helper()
	var first string
	for i, s := range stores {
		joins := s.Joins()
		got := c.do(s) + fmt.Sprint("; node, clock, Len: ", s.Node(), s.Clock(), s.Len())
		if i == 0 {
			first = got
		}
		if got != first {
			t.Fatalf("%s: %s at the store that was put, %s at one that was loaded", c.what, first, got)
		}
		if n := s.Joins() - joins; n < 0 || n > bound(s.Len()) {
			t.Fatalf("%s: %d joins, with %d keys", c.what, n, s.Len())
		}
	}
}

// alike asks two stores for everything that they tell, at keys and ranges of all sorts.
func alike(t *testing.T, a, b *store.Store) {
	t.Helper()
	borders := append(oddKeys(), "k\x00\x00", "k\x00\x40", "k\x00\xFF", "zz", tooLongKey)
	each(t, rangeCall(whole()), a, b)
	for parts := range 18 {
		each(t, splitCall(whole(), parts), a, b)
	}
	for i, lo := range borders {
		each(t, getCall(lo), a, b)
		each(t, rangeCall(api.Range{Lo: lo, Open: true}), a, b)
		hi := borders[(i*7+5)%len(borders)]
		each(t, rangeCall(rng(lo, hi)), a, b)
		each(t, splitCall(rng(lo, hi), 2), a, b)
	}
	if one, two := put(t, a), put(t, b); string(one) != string(two) {
		t.Fatalf("Put: %s, loaded: %s", short(string(one)), short(string(two)))
	}
}

// P10.4: each call, at stores of all sorts, behind Put and Load as without them.
func TestGoesOn(t *testing.T) {
	for _, x := range samples() {
		s := x.store(t)
		again := load(t, string(put(t, s)))
		alike(t, s, again)
		for _, key := range []string{"a", "", "new", "k\x00\x05", longKey, tooLongKey} {
			each(t, cloneCall(putCall(key, "v")), s, again)
			each(t, cloneCall(deleteCall(key)), s, again)
			each(t, putCall(key, "changed"), s, again)
			each(t, putCall(key, tooLongValue), s, again)
			each(t, takeCall(entry(key, max(1, x.clock), 0, "taken")), s, again)
			each(t, takeCall(entry(key, min(x.clock+9, greatest), 7, "taken")), s, again)
			each(t, takeCall(dead(key, greatest+1, 0)), s, again)
			each(t, deleteCall(key), s, again)
			each(t, getCall(key), s, again)
		}
		alike(t, s, again)
	}
}

// P10.4: what is written behind it has the next version, at each node, from each clock on.
func TestGoesOnWriting(t *testing.T) {
	for node := range 8 {
		for _, clock := range stretch() {
			s := load(t, string(put(t, sample{node, clock, nil}.store(t))))
			v, e := s.Put("a", "x")
			want, wrong := version(clock+1, node), api.OK
			if clock == greatest {
				want, wrong = api.Version{}, api.ErrWorn
			}
			if v != want || e != wrong {
				t.Errorf("Put of node %d from the clock %d on: %v, %d, want %v, %d", node, clock, v, e, want, wrong)
			}
		}
	}
}

// P10.4: a full store is full behind it, and a worn one is worn, but both still take what is newer.
func TestGoesOnFullAndWorn(t *testing.T) {
	full := load(t, string(put(t, sample{3, most, entriesOf(numbered(most))}.store(t))))
	if v, e := full.Put("new", ""); v != (api.Version{}) || e != api.ErrFull {
		t.Errorf("Put of another key: %v, %d", v, e)
	}
	if is, e := full.Take(entry("new", 1000, 0, "")); is || e != api.ErrFull {
		t.Errorf("Take of another key: %t, %d", is, e)
	}
	if v, e := full.Put("k\x00\x07", ""); v != version(most+1, 3) || e != api.OK {
		t.Errorf("Put of a key that is held: %v, %d", v, e)
	}
	worn := load(t, string(put(t, sample{3, greatest, []api.Entry{dead("a", greatest, 2)}}.store(t))))
	if v, e := worn.Delete("a"); v != (api.Version{}) || e != api.ErrWorn {
		t.Errorf("Delete: %v, %d", v, e)
	}
	if is, e := worn.Take(entry("a", greatest, 1, "")); is || e != api.OK {
		t.Errorf("Take of an older one: %t, %d", is, e)
	}
	if is, e := worn.Take(entry("a", greatest, 3, "")); !is || e != api.OK {
		t.Errorf("Take of a newer one: %t, %d", is, e)
	}
}

// P10.4, R3: what is done to either is not seen at the other one; iterators of either stay with what there was.
func TestGoesOnApart(t *testing.T) {
	x := sample{4, 1000, entriesOf(oddKeys())}
	s := x.store(t)
	held, _ := s.All(whole())
	again := load(t, string(put(t, s)))
	loaded, _ := again.All(whole())
	again.Put("a", "changed")
	again.Delete("new")
	x.is(t, s)
	now := sample{4, again.Clock(), heldBy(t, again)}
	s.Put("a", "otherwise")
	s.Take(dead("b", 5000, 1))
	now.is(t, again)
	if one, two := slices.Collect(held), slices.Collect(loaded); !slices.Equal(one, x.l) || !slices.Equal(two, x.l) {
		t.Errorf("iterators from before: %v, loaded: %v, want %v", one, two, x.l)
	}
}

// anyText is now and then too long.
func anyText(rnd *rand.Rand, most int) string {
	b := make([]byte, rnd.IntN(most+1))
	if rnd.IntN(30) == 0 {
		b = make([]byte, most+1)
	}
	for i := range b {
		b[i] = []byte{0, 'a', 'b', 255}[rnd.IntN(4)]
	}
	return string(b)
}

func anyKey(rnd *rand.Rand, keys []string) string {
	if rnd.IntN(5) == 0 {
		return anyText(rnd, 16)
	}
	return keys[rnd.IntN(len(keys))]
}

// anyEntry is of a Counter around the clock, and now and then may not be.
func anyEntry(rnd *rand.Rand, clock int, key string) api.Entry {
	e := entry(key, clock-10+rnd.IntN(15), rnd.IntN(8), anyText(rnd, 32))
	if rnd.IntN(3) == 0 {
		e.Dead, e.Value = true, ""
	}
	if rnd.IntN(40) == 0 {
		e.Version.Node = 8
	}
	if rnd.IntN(40) == 0 {
		e.Dead = !e.Dead
	}
	return e
}

func anyCall(rnd *rand.Rand, clock int, keys []string) call {
	key := anyKey(rnd, keys)
	r := api.Range{Lo: key, Hi: anyKey(rnd, keys), Open: rnd.IntN(5) == 0}
	switch rnd.IntN(12) {
	case 0, 1, 2:
		return putCall(key, anyText(rnd, 32))
	case 3, 4:
		return deleteCall(key)
	case 5, 6, 7:
		return takeCall(anyEntry(rnd, clock, key))
	case 8:
		return getCall(key)
	case 9:
		return splitCall(r, rnd.IntN(20))
	case 10:
		return cloneCall(putCall(key, anyText(rnd, 32)))
	}
	return rangeCall(r)
}

// P10.4: any calls: one store goes on without images, one was loaded at some time, one is put and loaded again and again. Some begin worn, or nearly so, and some are full soon.
func TestGoesOnWithAnyCalls(t *testing.T) {
	for seed := range uint64(6) {
		rnd := rand.New(rand.NewPCG(104, seed))
		keys := append(oddKeys(), tooLongKey)
		if seed%2 == 0 {
			keys = append(keys, numbered(most)...)
		}
		s := sample{rnd.IntN(8), []int{0, 50, greatest - 200}[seed%3], nil}.store(t)
		for range rnd.IntN(1000) {
			anyCall(rnd, s.Clock(), keys).do(s)
		}
		once := load(t, string(put(t, s)))
		often := load(t, string(put(t, s)))
		for n := range 600 {
			c := anyCall(rnd, s.Clock(), keys)
			each(t, c, s, once, often)
			if rnd.IntN(4) == 0 {
				often = load(t, string(put(t, often)))
			}
			if n%100 == 99 {
				alike(t, s, once)
				alike(t, s, often)
			}
		}
	}
}
