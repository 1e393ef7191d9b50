package store_test

import (
	"math"
	"testing"

	"tideline/api"
	"tideline/store"
)

func sameTake(t *testing.T, s *store.Store, p *plain, e api.Entry) {
	t.Helper()
	want, wrong := p.take(e)
	if is, got := s.Take(e); is != want || got != wrong {
		t.Fatalf("Take(%v): %t, %d, want %t, %d", e, is, got, want, wrong)
	}
	sameGet(t, s, p, e.Key)
	if s.Clock() != p.clock {
		t.Fatalf("Take(%v): clock %d, want %d", e, s.Clock(), p.clock)
	}
}

// P8.4: live and dead ones, the edges of keys, what is not there.
func TestGet(t *testing.T) {
	s := loaded(t, 0, 9, entry("", 1, 0, ""), dead("a", 2, 1), entry("aa", 3, 2, "v"), entry(longKey, 4, 7, longValue))
	for _, x := range []struct {
		key  string
		want api.Entry
		is   bool
		e    api.Errno
	}{
		{"", entry("", 1, 0, ""), true, api.OK},
		{"a", dead("a", 2, 1), true, api.OK},
		{"aa", entry("aa", 3, 2, "v"), true, api.OK},
		{longKey, entry(longKey, 4, 7, longValue), true, api.OK},
		{"\x00", api.Entry{}, false, api.OK},
		{"a\x00", api.Entry{}, false, api.OK},
		{"aaa", api.Entry{}, false, api.OK},
		{longKey[:15], api.Entry{}, false, api.OK},
		{highest, api.Entry{}, false, api.OK},
		{tooLongKey, api.Entry{}, false, api.ErrKey},
		{string(make([]byte, 100000)), api.Entry{}, false, api.ErrKey},
	} {
		changesNothing(t, s, "Get", func() {
			if got, is, e := s.Get(x.key); got != x.want || is != x.is || e != x.e {
				t.Errorf("Get(%q): %v, %t, %d, want %v, %t, %d", x.key, got, is, e, x.want, x.is, x.e)
			}
		})
	}
	empty := newStore(t, 0)
	if got, is, e := empty.Get(""); got != (api.Entry{}) || is || e != api.OK {
		t.Errorf("Get of an empty store: %v, %t, %d", got, is, e)
	}
	if got, is, e := empty.Get(tooLongKey); got != (api.Entry{}) || is || e != api.ErrKey {
		t.Errorf("Get of an empty store, too long: %v, %t, %d", got, is, e)
	}
}

// P8.5: over one that is held: an older one, the same one, one as new with another value, dead or alive, newer ones by Node and by Counter.
func TestTake(t *testing.T) {
	for _, held := range []api.Entry{entry("a", 5, 3, "x"), dead("a", 5, 3)} {
		for _, x := range []struct {
			e    api.Entry
			want bool
		}{
			{held, false},
			{entry("a", 5, 3, "other"), false},
			{entry("a", 5, 3, ""), false},
			{dead("a", 5, 3), false},
			{entry("a", 5, 2, "y"), false},
			{dead("a", 5, 2), false},
			{entry("a", 4, 7, "y"), false},
			{dead("a", 4, 7), false},
			{entry("a", 1, 0, ""), false},
			{entry("a", 5, 4, "y"), true},
			{dead("a", 5, 4), true},
			{entry("a", 6, 0, "y"), true},
			{dead("a", 6, 0), true},
			{entry("a", greatest, 0, longValue), true},
			{entry("b", 1, 0, ""), true},
			{dead("b", 1, 0), true},
			{entry("", 5, 3, "x"), true},
			{entry("aa", 9, 7, "x"), true},
		} {
			s, p := loaded(t, 1, 5, held), &plain{1, 5, []api.Entry{held}}
			sameTake(t, s, p, x.e)
			same(t, s, p)
			s = loaded(t, 1, 5, held)
			take := func() {
				if is, e := s.Take(x.e); is != x.want || e != api.OK {
					t.Errorf("Take(%v) over %v: %t, %d, want %t", x.e, held, is, e, x.want)
				}
			}
			if !x.want {
				changesNothing(t, s, "Take of what is not newer", take)
				continue
			}
			take()
			if got, is, e := s.Get(x.e.Key); got != x.e || !is || e != api.OK {
				t.Errorf("Get behind Take(%v): %v, %t, %d", x.e, got, is, e)
			}
		}
	}
}

// P8.5: the clock follows greater Counters alone, also those of entries that take an older one's place, and never those of entries that are not taken.
func TestTakeClock(t *testing.T) {
	s := newStore(t, 0)
	for _, x := range []struct {
		e     api.Entry
		clock int
	}{
		{entry("a", 7, 1, ""), 7},
		{entry("b", 3, 7, ""), 7},
		{entry("b", 7, 7, ""), 7},
		{dead("c", 8, 0), 8},
		{entry("a", 100, 0, ""), 100},
		{entry("a", 99, 7, ""), 100},
		{entry("c", 50, 7, ""), 100},
		{entry("z", greatest, 7, ""), greatest},
		{entry("y", 1, 0, ""), greatest},
	} {
		s.Take(x.e)
		if s.Clock() != x.clock {
			t.Errorf("the clock behind Take(%v): %d, want %d", x.e, s.Clock(), x.clock)
		}
	}
	if v, e := s.Put("a", ""); v != (api.Version{}) || e != api.ErrWorn {
		t.Errorf("Put behind the last Counter: %v, %d", v, e)
	}
}

// P8.5: also a worn store takes, entries of its own node too.
func TestTakeWorn(t *testing.T) {
	s, p := loaded(t, 2, greatest), &plain{node: 2, clock: greatest}
	for _, e := range []api.Entry{entry("a", 1, 2, "x"), dead("a", 2, 2), entry("a", greatest, 2, "y"), entry("a", greatest, 7, "z"), entry("b", greatest, 0, "")} {
		sameTake(t, s, p, e)
	}
	same(t, s, p)
}

// P8.5: item.Check's error, alone and several at once; also where the store is full, or holds something newer.
func TestTakeWrong(t *testing.T) {
	full := loaded(t, 1, greatest, entriesOf(numbered(most))...)
	stores := []*store.Store{newStore(t, 0), loaded(t, 3, greatest, entry("a", greatest, 7, "x")), full}
	for _, s := range stores {
		for _, key := range []string{"", "a", numbered(1)[0], longKey, tooLongKey} {
			for _, counter := range []int{math.MinInt, -1, 0, 1, greatest, greatest + 1, math.MaxInt} {
				for _, node := range []int{math.MinInt, -1, 0, 7, 8, math.MaxInt} {
					for _, value := range []string{"", "v", longValue, tooLongValue} {
						for _, isDead := range []bool{false, true} {
							e := api.Entry{Key: key, Version: version(counter, node), Value: value, Dead: isDead}
							takeRefused(t, s, e)
						}
					}
				}
			}
		}
	}
}

func takeRefused(t *testing.T, s *store.Store, e api.Entry) {
	t.Helper()
	want := entryError(e)
	if want == api.OK {
		return
	}
	clock, count, joins := s.Clock(), s.Len(), s.Joins()
	is, wrong := s.Take(e)
	if is || wrong != want {
		t.Fatalf("Take(%v): %t, %d, want %d", e, is, wrong, want)
	}
	if s.Clock() != clock || s.Len() != count || s.Joins() != joins {
		t.Fatalf("Take(%v): clock %d, Len %d, %d joins; they were %d, %d, %d", e, s.Clock(), s.Len(), s.Joins(), clock, count, joins)
	}
	if held, is, _ := s.Get(e.Key); is && held == e {
		t.Fatalf("Take(%v): it is held", e)
	}
}

// P8.5: a full store refuses keys that it does not hold, however new; those that it holds are taken, or not, as ever.
func TestTakeFull(t *testing.T) {
	l := entriesOf(numbered(most))
	s, p := loaded(t, 1, 1000, l...), &plain{1, 1000, l}
	for _, e := range []api.Entry{entry("new", 1, 0, ""), entry("", greatest, 7, "v"), dead("new", 2000, 0), dead(highest, 1, 0)} {
		changesNothing(t, s, "Take by a full store", func() {
			if is, wrong := s.Take(e); is || wrong != api.ErrFull {
				t.Errorf("Take(%v): %t, %d, want ErrFull", e, is, wrong)
			}
		})
	}
	for i, old := range l {
		sameTake(t, s, p, old)
		sameTake(t, s, p, entry(old.Key, 2000+i, i%8, "newer"))
		sameTake(t, s, p, dead(old.Key, 1999, 7))
	}
	same(t, s, p)
	s = loaded(t, 1, 1000, entriesOf(numbered(most-1))...)
	if is, e := s.Take(dead("last", 1, 0)); !is || e != api.OK || s.Len() != most {
		t.Errorf("the last key: %t, %d, Len %d", is, e, s.Len())
	}
}
