package store_test

import (
	"iter"
	"slices"
	"testing"

	"tideline/api"
	"tideline/store"
)

// P8.6: dead ones and live ones, borders that are keys themselves, and such as are none.
func TestScanAndAll(t *testing.T) {
	a, b, c, d := dead("a", 1, 0), entry("b", 2, 1, "x"), dead("c", 3, 0), entry("d", 4, 7, "")
	first := entry("", 5, 5, "first")
	s := loaded(t, 0, 9, first, a, b, c, d)
	for _, x := range []struct {
		r   api.Range
		all []api.Entry
	}{
		{whole(), []api.Entry{first, a, b, c, d}},
		{from("a"), []api.Entry{a, b, c, d}},
		{from("a\x00"), []api.Entry{b, c, d}},
		{from("d"), []api.Entry{d}},
		{from("d\x00"), nil},
		{from(highest), nil},
		{rng("", "d"), []api.Entry{first, a, b, c}},
		{rng("", "d\x00"), []api.Entry{first, a, b, c, d}},
		{rng("", highest), []api.Entry{first, a, b, c, d}},
		{rng("", "\x00"), []api.Entry{first}},
		{rng("", ""), nil},
		{rng("a", "b"), []api.Entry{a}},
		{rng("a", "a\x00"), []api.Entry{a}},
		{rng("b", "c"), []api.Entry{b}},
		{rng("b", "b"), nil},
		{rng("bb", "bz"), nil},
		{rng("a", "d"), []api.Entry{a, b, c}},
		{rng("e", "f"), nil},
		{rng("c", "c\x00"), []api.Entry{c}},
	} {
		if got := allOf(t, s, x.r); !slices.Equal(got, x.all) {
			t.Errorf("All(%#v): %v, want %v", x.r, got, x.all)
		}
		if got := scanOf(t, s, x.r); !slices.Equal(got, living(x.all)) {
			t.Errorf("Scan(%#v): %v, want %v", x.r, got, living(x.all))
		}
		if got := foldOf(t, s, x.r); got != tallyOf(x.all) {
			t.Errorf("Fold(%#v): %v, want %v", x.r, got, tallyOf(x.all))
		}
	}
}

// P8.6: stores of no entry, one, some, and as many as may be, over ranges of all sorts.
func TestScanAndAllOfMany(t *testing.T) {
	for _, keys := range [][]string{nil, {""}, {"a"}, {highest}, oddKeys(), numbered(100), numbered(most)} {
		l := entriesOf(keys)
		same(t, loaded(t, 3, 1000, l...), &plain{3, 1000, l})
	}
}

// P8.6: of dead entries alone Scan tells none, All all.
func TestScanOfDeadOnes(t *testing.T) {
	s := newStore(t, 0)
	for _, key := range numbered(most) {
		s.Delete(key)
	}
	if got := scanOf(t, s, whole()); len(got) != 0 {
		t.Errorf("Scan: %v", got)
	}
	if got := keysOf(allOf(t, s, whole())); !slices.Equal(got, numbered(most)) {
		t.Errorf("All: %q", got)
	}
}

// wrongRanges are ranges that may not be, with the error of each.
func wrongRanges() map[api.Range]api.Errno {
	return map[api.Range]api.Errno{
		rng("x", "a"):                api.ErrRange,
		rng("a", ""):                 api.ErrRange,
		rng("a\x00", "a"):            api.ErrRange,
		openTo("a", "b"):             api.ErrRange,
		openTo("", "\x00"):           api.ErrRange,
		openTo("b", "a"):             api.ErrRange,
		rng(tooLongKey, "z"):         api.ErrKey,
		rng("a", tooLongKey):         api.ErrKey,
		from(tooLongKey):             api.ErrKey,
		rng(tooLongKey, tooLongKey):  api.ErrKey,
		rng(tooLongKey, "a"):         api.ErrKey,
		rng("z", tooLongKey):         api.ErrKey,
		openTo("a", tooLongKey):      api.ErrKey,
		openTo(tooLongKey, "b"):      api.ErrKey,
		rng("", highest+"\x00"):      api.ErrKey,
		rng(lowest+"\x00", highest):  api.ErrKey,
		openTo(tooLongKey, "\x00"):   api.ErrKey,
		rng("\xFF", "\xFE"):          api.ErrRange,
		rng(highest, highest[:15]):   api.ErrRange,
		rng(lowest, lowest[:15]):     api.ErrRange,
		openTo(highest, highest):     api.ErrRange,
		openTo(highest, highest+"a"): api.ErrKey,
	}
}

// P8.6, P8.7, P8.8, R2: span.Check's error, and nothing beside it.
func TestWrongRanges(t *testing.T) {
	for _, keys := range [][]string{nil, oddKeys(), numbered(most)} {
		s := loaded(t, 0, 1000, entriesOf(keys)...)
		for r, want := range wrongRanges() {
			changesNothing(t, s, "a range that may not be", func() { refused(t, s, r, want) })
		}
	}
}

// R6: never nil, not even of no entries.
func TestIteratorsAreThere(t *testing.T) {
	for _, s := range []*store.Store{newStore(t, 0), loaded(t, 0, 9, dead("a", 1, 0)), loaded(t, 0, 9, entry("a", 1, 0, ""))} {
		for _, r := range []api.Range{whole(), from("b"), rng("", ""), rng("x", "x"), rng("a", "b")} {
			all, _ := s.All(r)
			scan, _ := s.Scan(r)
			if all == nil || scan == nil {
				t.Errorf("the iterators over %#v: %t, %t", r, all != nil, scan != nil)
			}
		}
	}
}

// kept is an iterator, and what there was when it was asked for.
type kept struct {
	what    string
	entries iter.Seq[api.Entry]
	want    []api.Entry
}

func keep(t *testing.T, s *store.Store, r api.Range) []kept {
	t.Helper()
	all, e := s.All(r)
	scan, f := s.Scan(r)
	if e != api.OK || f != api.OK {
		t.Fatalf("the iterators over %#v: %d, %d", r, e, f)
	}
	l := allOf(t, s, r)
	return []kept{{"All", all, l}, {"Scan", scan, living(l)}}
}

// R6: asked for once, gone through later, and twice, whatever is written and taken since.
func TestIteratorsKept(t *testing.T) {
	s := newStore(t, 2)
	var l []kept
	ranges := []api.Range{whole(), from("a"), rng("a", "b"), rng("", highest), from(highest)}
	for i, key := range append(oddKeys(), numbered(60)...) {
		for _, r := range ranges {
			l = append(l, keep(t, s, r)...)
		}
		switch i % 4 {
		case 0:
			s.Delete(key)
		case 1:
			s.Take(entry(key, 1000+i, 5, "taken"))
		default:
			s.Put(key, "v")
		}
		// What was held ahead of it becomes another thing too.
		if before := allOf(t, s, whole()); i%3 == 0 {
			s.Delete(before[len(before)/2].Key)
		} else {
			s.Put(before[len(before)/2].Key, "again")
		}
	}
	for range 2 {
		for n, k := range l {
			if got := gone(k.entries); !slices.Equal(got, k.want) {
				t.Fatalf("%s, kept as the iterator %d: %v, want %v", k.what, n, got, k.want)
			}
		}
	}
}

// R6: what is done at each entry of an iterator is not seen by it.
func TestChangedWhileGoingThrough(t *testing.T) {
	for _, n := range []int{0, 1, 2, 3, 10, 50} {
		for which := range 2 {
			s := loaded(t, 0, 1000, entriesOf(numbered(n))...)
			k := keep(t, s, whole())[which]
			var got []api.Entry
			for e := range k.entries {
				got = append(got, e)
				s.Put(e.Key, "changed")
				s.Delete(e.Key + "\x00")
				s.Take(entry(e.Key+"\xFF", 5000, 0, "taken"))
				for _, other := range k.want {
					s.Delete(other.Key)
				}
			}
			if !slices.Equal(got, k.want) {
				t.Fatalf("%s of %d: %v, want %v", k.what, n, got, k.want)
			}
			if want := n + 2*len(k.want); s.Len() != want {
				t.Errorf("%s of %d: Len %d, want %d", k.what, n, s.Len(), want)
			}
		}
	}
}

// R6: left early, at each entry; then gone through from its beginning again.
func TestLeftEarly(t *testing.T) {
	s := loaded(t, 0, 1000, entriesOf(numbered(40))...)
	for _, k := range append(keep(t, s, whole()), keep(t, s, rng(numbered(40)[5], numbered(40)[33]))...) {
		for stop := range k.want {
			var got []api.Entry
			for e := range k.entries {
				got = append(got, e)
				if len(got) == stop+1 {
					break
				}
			}
			if !slices.Equal(got, k.want[:stop+1]) {
				t.Fatalf("%s, left at %d: %v, want %v", k.what, stop, got, k.want[:stop+1])
			}
			calls := 0
			k.entries(func(api.Entry) bool {
				calls++
				return calls <= stop
			})
			if calls != stop+1 {
				t.Fatalf("%s: %d calls behind the one that wanted no more", k.what, calls-stop-1)
			}
		}
		if got := gone(k.entries); !slices.Equal(got, k.want) {
			t.Fatalf("%s, behind that: %v, want %v", k.what, got, k.want)
		}
	}
}

// R6: within itself, to the end, and left early.
func TestWithinItself(t *testing.T) {
	s := loaded(t, 0, 1000, entriesOf(numbered(12))...)
	for _, k := range keep(t, s, whole()) {
		outer := 0
		for e := range k.entries {
			if e != k.want[outer] {
				t.Fatalf("%s, outer entry %d: %v, want %v", k.what, outer, e, k.want[outer])
			}
			if got := gone(k.entries); !slices.Equal(got, k.want) {
				t.Fatalf("%s, within entry %d: %v, want %v", k.what, outer, got, k.want)
			}
			for e := range k.entries {
				if e != k.want[0] {
					t.Fatalf("%s, the first one within entry %d: %v", k.what, outer, e)
				}
				break
			}
			outer++
		}
		if outer != len(k.want) {
			t.Fatalf("%s: %d entries, want %d", k.what, outer, len(k.want))
		}
	}
}
