package store_test

import (
	"math/rand/v2"
	"slices"
	"testing"

	"tideline/api"
	"tideline/cuts"
	"tideline/span"
	"tideline/store"
	"tideline/tally"
)

// P8.7: the lanes of an entry, as DOC.md's second example tells them, and of nothing.
func TestFoldExamples(t *testing.T) {
	s := newStore(t, 0)
	if f := foldOf(t, s, whole()); f != (api.Tally{}) {
		t.Errorf("Fold of nothing: %v", f)
	}
	s.Put("a", "whatever")
	want := api.Tally{Count: 1, Sum: api.Sum{0x935aaef53b422411, 0x13804f825c758b96}}
	if f := foldOf(t, s, whole()); f != want {
		t.Errorf("Fold of a {1, 0}: %x, want %x", f, want)
	}
	if f := foldOf(t, s, rng("x", "x")); f != (api.Tally{}) {
		t.Errorf("Fold of x to x: %v", f)
	}
	if f, e := s.Fold(rng("x", "a")); f != (api.Tally{}) || e != api.ErrRange {
		t.Errorf("Fold of x to a: %v, %d", f, e)
	}
	s.Delete("b")
	if f := foldOf(t, s, whole()); f.Count != 2 {
		t.Errorf("Fold with a dead one: %v", f)
	}
}

// P8.7: every row of keys, also behind each write; and values are not asked.
func TestFoldOfEveryRow(t *testing.T) {
	const n = 30
	keys := numbered(n)
	s, p := newStore(t, 1), &plain{node: 1}
	for _, i := range rand.New(rand.NewPCG(8, 7)).Perm(n) {
		samePut(t, s, p, keys[i], "v")
		for j := range keys {
			for k := j; k < n; k++ {
				if got, want := foldOf(t, s, rng(keys[j], keys[k])), tallyOf(p.in(rng(keys[j], keys[k]))); got != want {
					t.Fatalf("Fold from key %d to key %d: %v, want %v", j, k, got, want)
				}
			}
		}
	}
	before := foldOf(t, s, whole())
	other := loaded(t, 1, s.Clock())
	for e := range mustAll(t, s) {
		e.Value = "another"
		other.Take(e)
	}
	if got := foldOf(t, other, whole()); got != before {
		t.Errorf("Fold with other values: %v, want %v", got, before)
	}
}

func mustAll(t *testing.T, s *store.Store) func(func(api.Entry) bool) {
	t.Helper()
	entries, e := s.All(whole())
	if e != api.OK {
		t.Fatal(e)
	}
	return entries
}

// P8.9: the bound is that of layer 5.
func TestBound(t *testing.T) {
	for n := range 2 * most {
		if bound(n) != tally.Bound(n) {
			t.Fatalf("with %d keys: %d, by layer 5 %d", n, bound(n), tally.Bound(n))
		}
	}
}

// P8.9, W2: each call, at each number of keys, in whatever order they come.
func TestJoins(t *testing.T) {
	rnd := rand.New(rand.NewPCG(8, 9))
	keys := numbered(most)
	backward := slices.Clone(keys)
	slices.Reverse(backward)
	for _, order := range [][]string{keys, backward, shuffled(rnd, keys)} {
		s := newStore(t, 0)
		for i, key := range order {
			switch i % 3 {
			case 0:
				fewJoins(t, s, "Put", func() { s.Put(key, "v") })
			case 1:
				fewJoins(t, s, "Delete", func() { s.Delete(key) })
			default:
				fewJoins(t, s, "Take", func() { s.Take(entry(key, 1000+i, 3, "")) })
			}
			old := order[rnd.IntN(i+1)]
			fewJoins(t, s, "Put again", func() { s.Put(old, "again") })
			fewJoins(t, s, "Delete again", func() { s.Delete(old) })
			fewJoins(t, s, "Take again", func() { s.Take(entry(old, 9000+i, 3, "")) })
			readsJoinFew(t, s, rnd, keys)
		}
		if s.Len() != most {
			t.Fatalf("Len %d", s.Len())
		}
	}
}

func readsJoinFew(t *testing.T, s *store.Store, rnd *rand.Rand, keys []string) {
	t.Helper()
	lo, hi := rnd.IntN(len(keys)), rnd.IntN(len(keys))
	some := rng(keys[min(lo, hi)], keys[max(lo, hi)])
	for _, r := range []api.Range{whole(), from(keys[1]), rng(keys[0], keys[255]), rng(keys[1], keys[254]), some, rng("", ""), rng("z", "a")} {
		fewJoins(t, s, "Fold", func() { s.Fold(r) })
		fewJoins(t, s, "Split", func() { s.Split(r, 3) })
		fewJoins(t, s, "Scan", func() {
			if entries, e := s.Scan(r); e == api.OK {
				gone(entries)
			}
		})
		fewJoins(t, s, "All", func() {
			if entries, e := s.All(r); e == api.OK {
				gone(entries)
			}
		})
	}
	fewJoins(t, s, "Get", func() { s.Get(keys[lo]) })
	fewJoins(t, s, "Clone", func() { s.Clone() })
	fewJoins(t, s, "Len, Node, Clock and Joins", func() { s.Len(); s.Node(); s.Clock(); s.Joins() })
}

// P8.9: what is refused, and what is not newer, at a full store and at a worn one.
func TestJoinsOfWhatIsRefused(t *testing.T) {
	for _, clock := range []int{1000, greatest} {
		s := loaded(t, 0, clock, entriesOf(numbered(most))...)
		held := numbered(most)[100]
		changesNothing(t, s, "what is refused", func() {
			s.Put("new", "")
			s.Delete("new")
			s.Take(entry("new", 1, 0, ""))
			s.Put(held, tooLongValue)
			s.Put(tooLongKey, "")
			s.Delete(tooLongKey)
			s.Take(api.Entry{})
			s.Fold(rng("b", "a"))
		})
	}
}

// P8.9: joins are counted: whatever the store keeps, all of 256 entries come to one tally by no fewer than 255 joins.
func TestJoinsAreCounted(t *testing.T) {
	s := newStore(t, 0)
	was := s.Joins()
	for _, key := range numbered(most) {
		s.Put(key, "")
	}
	foldOf(t, s, whole())
	if n := s.Joins() - was; n < most-1 {
		t.Errorf("%d joins", n)
	}
}

// P8.8
func TestSplit(t *testing.T) {
	s := newStore(t, 0)
	for _, key := range []string{"a", "b", "c", "d", "e"} {
		s.Put(key, "v")
	}
	s.Delete("c")
	for _, x := range []struct {
		r     api.Range
		parts int
		want  []api.Range
		e     api.Errno
	}{
		{whole(), 2, []api.Range{rng("", "c"), from("c")}, api.OK},
		{whole(), 1, []api.Range{whole()}, api.OK},
		{whole(), 5, []api.Range{rng("", "b"), rng("b", "c"), rng("c", "d"), rng("d", "e"), from("e")}, api.OK},
		{whole(), 6, nil, api.ErrArg},
		{whole(), 0, nil, api.ErrArg},
		{whole(), -1, nil, api.ErrArg},
		{rng("b", "d"), 2, []api.Range{rng("b", "c"), rng("c", "d")}, api.OK},
		{rng("b", "d"), 3, nil, api.ErrArg},
		{rng("aa", "cc"), 2, []api.Range{rng("aa", "c"), rng("c", "cc")}, api.OK},
		{rng("e", highest), 1, []api.Range{rng("e", highest)}, api.OK},
		{from("d"), 2, []api.Range{rng("d", "e"), from("e")}, api.OK},
		{from("f"), 1, nil, api.ErrArg},
		{rng("c", "c"), 1, nil, api.ErrArg},
		{rng("x", "a"), 1, nil, api.ErrRange},
		{rng("x", "a"), 0, nil, api.ErrRange},
		{openTo("a", "c"), 9, nil, api.ErrRange},
		{rng(tooLongKey, "a"), 0, nil, api.ErrKey},
	} {
		if l, e := s.Split(x.r, x.parts); !slices.Equal(l, x.want) || e != x.e {
			t.Errorf("Split(%#v, %d): %v, %d, want %v, %d", x.r, x.parts, l, e, x.want, x.e)
		}
	}
}

// P8.8, P8.11: at every number of parts; what cuts.Ranges tells, which tiles the range; and the Folds of the parts, joined, are that of the range.
func TestSplitAtEveryNumber(t *testing.T) {
	for _, keys := range [][]string{{"a"}, {"", highest}, oddKeys(), numbered(100), numbered(most)} {
		l := entriesOf(keys)
		s, p := loaded(t, 0, 1000, l...), &plain{0, 1000, l}
		ranges := []api.Range{whole(), from(keys[0]), rng("", highest), rng(keys[0], keys[len(keys)-1]), rng(keys[len(keys)/3], keys[len(keys)/2])}
		for _, r := range ranges {
			held := keysOf(p.in(r))
			for parts := -1; parts <= len(held)+2; parts++ {
				sameSplit(t, s, p, r, parts)
				pieces, e := s.Split(r, parts)
				want, wrong := cuts.Ranges(r, held, parts)
				if !slices.Equal(pieces, want) || e != wrong {
					t.Fatalf("Split(%#v, %d): %v, %d, by cuts %v, %d", r, parts, pieces, e, want, wrong)
				}
				if e == api.OK {
					foldsOfParts(t, s, r, pieces)
				}
			}
		}
		for _, parts := range outside(1, len(keys)) {
			if pieces, e := s.Split(whole(), parts); len(pieces) != 0 || e != api.ErrArg {
				t.Errorf("Split of %d keys, %d parts: %v, %d, want ErrArg", len(keys), parts, pieces, e)
			}
		}
	}
}

func foldsOfParts(t *testing.T, s *store.Store, r api.Range, pieces []api.Range) {
	t.Helper()
	if !span.Tile(pieces, r) {
		t.Fatalf("%v do not tile %#v", pieces, r)
	}
	var sum api.Tally
	for _, piece := range pieces {
		f := foldOf(t, s, piece)
		if f.Count == 0 {
			t.Fatalf("the part %#v of %#v holds nothing", piece, r)
		}
		sum = tally.Join(sum, f)
	}
	if f := foldOf(t, s, r); f != sum {
		t.Fatalf("Fold(%#v): %v, its parts' come to %v", r, f, sum)
	}
}

// P8.11: also at borders that are no keys of the store.
func TestFoldOfAnySplit(t *testing.T) {
	s := loaded(t, 0, 1000, entriesOf(numbered(90))...)
	borders := []string{"k", "k\x00\x05", "k\x00\x05\x00", "k\x00\x30", "k\x01", "z"}
	for i := range borders {
		for j := i; j <= len(borders); j++ {
			pieces, e := span.Split(whole(), borders[i:j])
			if e != api.OK {
				t.Fatal(e)
			}
			var sum api.Tally
			for _, piece := range pieces {
				sum = tally.Join(sum, foldOf(t, s, piece))
			}
			if f := foldOf(t, s, whole()); f != sum {
				t.Errorf("Fold: %v, the Folds of %v come to %v", f, pieces, sum)
			}
		}
	}
}

// R3: an answer of Split is new memory.
func TestSplitIsNew(t *testing.T) {
	s := loaded(t, 0, 1000, entriesOf(numbered(20))...)
	first, _ := s.Split(whole(), 4)
	second, _ := s.Split(whole(), 4)
	want := slices.Clone(second)
	spoil(first, rng("q", "r"))
	if !slices.Equal(second, want) {
		t.Errorf("the ranges are %v now, they were %v", second, want)
	}
	if third, e := s.Split(whole(), 4); !slices.Equal(third, want) || e != api.OK {
		t.Errorf("Split again: %v, %d, want %v", third, e, want)
	}
}
