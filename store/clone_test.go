package store_test

import (
	"slices"
	"testing"

	"tideline/api"
	"tideline/store"
)

// P8.9: of a store of no entry, one, many; with clocks above their Counters.
func TestClone(t *testing.T) {
	for _, keys := range [][]string{nil, {""}, oddKeys(), numbered(most)} {
		for _, clock := range []int{1000, greatest} {
			for _, node := range []int{0, 7} {
				l := entriesOf(keys)
				s := loaded(t, node, clock, l...)
				c := s.Clone()
				if c == s || c == nil {
					t.Fatal("the clone is the store itself, or nil")
				}
				p := &plain{node, clock, l}
				same(t, c, p)
				same(t, s, p)
			}
		}
	}
}

// P8.9: what is done to either, by each call, is not seen at the other one, not by its joins either.
func TestCloneApart(t *testing.T) {
	l := entriesOf(oddKeys())
	for _, x := range []struct {
		what string
		call func(s *store.Store)
	}{
		{"Put", func(s *store.Store) { s.Put("a", "changed") }},
		{"Put of a new key", func(s *store.Store) { s.Put("new", "v") }},
		{"Delete", func(s *store.Store) { s.Delete("b") }},
		{"Delete of a new key", func(s *store.Store) { s.Delete("new") }},
		{"Take", func(s *store.Store) { s.Take(entry("aa", 5000, 7, "taken")) }},
		{"Take of a new key", func(s *store.Store) { s.Take(dead("new", 5000, 7)) }},
		{"Fold", func(s *store.Store) { s.Fold(rng("\x00", "\xFF\xFF")) }},
		{"Split", func(s *store.Store) { s.Split(whole(), 3) }},
		{"Clone", func(s *store.Store) { s.Clone().Put("a", "changed") }},
	} {
		s := loaded(t, 1, 1000, l...)
		c := s.Clone()
		changesNothing(t, s, x.what+" at the clone", func() { x.call(c) })
		same(t, s, &plain{1, 1000, slices.Clone(l)})
		c = s.Clone()
		changesNothing(t, c, x.what+" at the store", func() { x.call(s) })
		same(t, c, &plain{1, 1000, slices.Clone(l)})
	}
}

// P8.9: both are filled up from the same beginning, each with keys of its own.
func TestClonesFilledUp(t *testing.T) {
	s, p := newStore(t, 5), &plain{node: 5}
	for _, key := range numbered(100) {
		samePut(t, s, p, key, "v")
	}
	c, q := s.Clone(), p.clone()
	for _, key := range numbered(most) {
		fewJoins(t, s, "Put at the store", func() { samePut(t, s, p, "m"+key, "mine") })
		fewJoins(t, c, "Delete at the clone", func() { sameDelete(t, c, q, "t"+key) })
	}
	same(t, s, p)
	same(t, c, q)
	if s.Len() != most || c.Len() != most {
		t.Errorf("Len %d and %d", s.Len(), c.Len())
	}
}

// P8.9, R6: iterators of a store do not see its clone's changes, nor the clone's the store's.
func TestIteratorsOfClones(t *testing.T) {
	s := loaded(t, 0, 1000, entriesOf(numbered(30))...)
	before := keep(t, s, whole())
	c := s.Clone()
	theirs := keep(t, c, from(numbered(30)[10]))
	for _, k := range before {
		for e := range k.entries {
			c.Put(e.Key, "clone's")
			c.Delete(e.Key + "x")
		}
	}
	for _, k := range theirs {
		for e := range k.entries {
			s.Delete(e.Key)
			s.Put(e.Key+"y", "store's")
		}
	}
	for _, k := range append(before, theirs...) {
		if got := gone(k.entries); !slices.Equal(got, k.want) {
			t.Errorf("%s: %v, want %v", k.what, got, k.want)
		}
	}
}

// P8.9: clones of clones go their own ways.
func TestClonesOfClones(t *testing.T) {
	s, p := newStore(t, 0), &plain{}
	type pair struct {
		s *store.Store
		p *plain
	}
	pairs := []pair{{s, p}}
	for i, key := range append(oddKeys(), numbered(20)...) {
		one := pairs[i%len(pairs)]
		pairs = append(pairs, pair{one.s.Clone(), one.p.clone()})
		for j, x := range pairs {
			switch (i + j) % 3 {
			case 0:
				samePut(t, x.s, x.p, key, "v")
			case 1:
				sameDelete(t, x.s, x.p, key)
			default:
				sameTake(t, x.s, x.p, entry(key, 10*i+j+1, j%8, "taken"))
			}
		}
	}
	for _, x := range pairs {
		if got := allOf(t, x.s, whole()); !slices.Equal(got, x.p.held) || x.s.Clock() != x.p.clock {
			t.Fatalf("%v, clock %d; want %v, %d", got, x.s.Clock(), x.p.held, x.p.clock)
		}
		if f := foldOf(t, x.s, whole()); f != tallyOf(x.p.held) {
			t.Fatalf("Fold: %v", f)
		}
	}
}

// P8.9: two stores of the same list have nothing in common.
func TestStoresApart(t *testing.T) {
	l := entriesOf(numbered(10))
	s, other := loaded(t, 1, 1000, l...), loaded(t, 1, 1000, l...)
	changesNothing(t, other, "the other store's writes", func() {
		s.Put(l[0].Key, "changed")
		s.Delete("new")
		s.Fold(rng(l[1].Key, l[8].Key))
	})
	if e, _, _ := other.Get(l[0].Key); e != l[0] {
		t.Errorf("Get: %v, want %v", e, l[0])
	}
	if _, is, wrong := other.Get("new"); is || wrong != api.OK {
		t.Errorf("Get of the other's key: %t, %d", is, wrong)
	}
}
