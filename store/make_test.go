package store_test

import (
	"slices"
	"testing"

	"tideline/api"
	"tideline/store"
)

// P8.1: each node that may be.
func TestNew(t *testing.T) {
	for node := range 8 {
		s := newStore(t, node)
		same(t, s, &plain{node: node})
		if v, e := s.Put("a", ""); v != version(1, node) || e != api.OK {
			t.Errorf("the first Put of node %d: %v, %d", node, v, e)
		}
	}
}

// P8.1
func TestNewWrong(t *testing.T) {
	for _, node := range outside(0, 7) {
		if s, e := store.New(node); s != nil || e != api.ErrArg {
			t.Errorf("New(%d): %v, %d, want ErrArg", node, s, e)
		}
	}
}

// P8.2: nodes and clocks at their edges, no entry, one, many, and as many as may be.
func TestLoad(t *testing.T) {
	lists := [][]api.Entry{
		nil,
		{},
		{entry("a", 1, 0, "")},
		{dead("", 1, 7)},
		{entry(longKey, 1, 3, longValue)},
		entriesOf(oddKeys()),
		entriesOf(numbered(most - 1)),
		entriesOf(numbered(most)),
	}
	for _, l := range lists {
		for _, node := range []int{0, 1, 6, 7} {
			for _, clock := range []int{len(l), len(l) + 1, 1000, greatest - 1, greatest} {
				s := loaded(t, node, clock, l...)
				p := &plain{node, clock, slices.Clone(l)}
				if got := allOf(t, s, whole()); !slices.Equal(got, l) || s.Node() != node || s.Clock() != clock || s.Len() != len(l) {
					t.Errorf("Load(%d, %d, %d entries): %v, node %d, clock %d, Len %d", node, clock, len(l), got, s.Node(), s.Clock(), s.Len())
				}
				if node == 7 && clock == greatest {
					same(t, s, p)
				}
			}
		}
	}
}

// P8.2: an entry whose Counter is the clock itself, and the greatest one.
func TestLoadClock(t *testing.T) {
	for _, clock := range []int{1, 2, 5, greatest - 1, greatest} {
		e := entry("a", clock, 7, "v")
		same(t, loaded(t, 0, clock, e), &plain{0, clock, []api.Entry{e}})
	}
	for _, clock := range []int{0, 1, 5, greatest - 1} {
		if s, e := store.Load(0, clock, []api.Entry{entry("a", clock+1, 0, "v")}); s != nil || e != api.ErrVersion {
			t.Errorf("a Counter above the clock %d: %v, %d, want ErrVersion", clock, s, e)
		}
	}
}

// P8.2: what is written behind it goes on from the clock, not from the entries.
func TestLoadThenWrite(t *testing.T) {
	s := loaded(t, 5, 70, entry("a", 3, 1, "x"), dead("b", 9, 6))
	if v, e := s.Put("c", ""); v != version(71, 5) || e != api.OK {
		t.Errorf("Put: %v, %d", v, e)
	}
	if v, e := s.Delete("a"); v != version(72, 5) || e != api.OK {
		t.Errorf("Delete: %v, %d", v, e)
	}
	s = loaded(t, 5, greatest-1, entry("a", 3, 1, "x"))
	if v, e := s.Put("a", "y"); v != version(greatest, 5) || e != api.OK {
		t.Errorf("the last Put: %v, %d", v, e)
	}
	if v, e := s.Put("a", "z"); v != (api.Version{}) || e != api.ErrWorn {
		t.Errorf("the one behind it: %v, %d", v, e)
	}
}

// P8.2, R2
func TestLoadWrong(t *testing.T) {
	a, b, c := entry("a", 1, 0, "x"), entry("b", 5, 1, ""), dead("c", 6, 2)
	tooMany := entriesOf(numbered(most + 1))
	for _, x := range []struct {
		node, clock int
		l           []api.Entry
		want        api.Errno
	}{
		{-1, 6, []api.Entry{a}, api.ErrArg},
		{8, 6, []api.Entry{a}, api.ErrArg},
		{0, -1, nil, api.ErrArg},
		{0, greatest + 1, nil, api.ErrArg},
		{0, 1000, tooMany, api.ErrFull},
		{0, 1000, make([]api.Entry, 1000), api.ErrFull},
		{1, 5, []api.Entry{entry("a", 6, 0, "")}, api.ErrVersion},
		{1, 5, []api.Entry{a, b, c}, api.ErrVersion},
		{1, 0, []api.Entry{a}, api.ErrVersion},
		{1, 5, []api.Entry{entry("b", 1, 0, ""), entry("a", 1, 0, "")}, api.ErrOrder},
		{1, 6, []api.Entry{a, a}, api.ErrOrder},
		{1, 6, []api.Entry{a, entry("a", 2, 0, "y")}, api.ErrOrder},
		{1, 6, []api.Entry{a, c, b}, api.ErrOrder},
		{1, 6, []api.Entry{entry("", 1, 0, ""), entry("", 2, 0, "")}, api.ErrOrder},
		{1, 6, []api.Entry{entry("aa", 1, 0, ""), a}, api.ErrOrder},
		{1, 6, []api.Entry{entry("\x80", 1, 0, ""), entry("\x7F", 2, 0, "")}, api.ErrOrder},
		{1, 6, []api.Entry{{}}, api.ErrVersion},
		{1, 6, []api.Entry{a, {Key: "b"}}, api.ErrVersion},
		{1, 6, []api.Entry{entry("a", 1, 8, "")}, api.ErrVersion},
		{1, 6, []api.Entry{entry("a", 1, -1, "")}, api.ErrVersion},
		{1, greatest, []api.Entry{entry("a", greatest+1, 0, "")}, api.ErrVersion},
		{1, 6, []api.Entry{entry(tooLongKey, 1, 0, "")}, api.ErrKey},
		{1, 6, []api.Entry{entry("a", 1, 0, tooLongValue)}, api.ErrValue},
		{1, 6, []api.Entry{{Key: "a", Version: version(1, 0), Value: "v", Dead: true}}, api.ErrDead},
		// Several at once: the one that is named first is told.
		{8, -1, tooMany, api.ErrArg},
		{0, -1, tooMany, api.ErrArg},
		{8, 0, tooMany, api.ErrArg},
		{8, 6, []api.Entry{b, a}, api.ErrArg},
		{0, greatest + 1, []api.Entry{{}}, api.ErrArg},
		{0, 0, tooMany, api.ErrFull},
		{0, 0, append(slices.Clone(tooMany), api.Entry{Key: tooLongKey}), api.ErrFull},
		{1, 6, []api.Entry{b, entry("a", 0, 0, "")}, api.ErrVersion},
		{1, 6, []api.Entry{b, entry("a", 1, 0, tooLongValue)}, api.ErrValue},
		{1, 6, []api.Entry{b, entry("a", 7, 0, tooLongValue)}, api.ErrValue},
		{1, 6, []api.Entry{b, {Key: "a", Version: version(1, 0), Value: "v", Dead: true}}, api.ErrDead},
		{1, 6, []api.Entry{{Key: "a", Version: version(7, 0), Value: "v", Dead: true}}, api.ErrDead},
		{1, 6, []api.Entry{b, entry("a", 7, 0, "")}, api.ErrOrder},
		{1, 6, []api.Entry{b, entry("b", 7, 0, "")}, api.ErrOrder},
		{1, 6, []api.Entry{entry(longKey+"l", 7, 0, tooLongValue)}, api.ErrKey},
		// Entry by entry: what is wrong with an earlier one is told.
		{1, 4, []api.Entry{b, a}, api.ErrVersion},
		{1, 6, []api.Entry{b, a, entry(tooLongKey, 1, 0, "")}, api.ErrOrder},
		{1, 4, []api.Entry{b, entry(tooLongKey, 1, 0, "")}, api.ErrVersion},
		{1, 6, []api.Entry{a, entry("b", 1, 0, tooLongValue), {}}, api.ErrValue},
	} {
		if s, e := store.Load(x.node, x.clock, x.l); s != nil || e != x.want {
			t.Errorf("Load(%d, %d, %d entries, %v): %v, %d, want %d", x.node, x.clock, len(x.l), x.l[:min(3, len(x.l))], s, e, x.want)
		}
	}
}

// P8.2: the numbers around the bounds, alone and beside one another.
func TestLoadWrongNumbers(t *testing.T) {
	for _, l := range [][]api.Entry{nil, {entry("a", 1, 0, "")}, {{}}, entriesOf(numbered(most + 1))} {
		for _, node := range outside(0, 7) {
			for _, clock := range append(outside(0, greatest), 0, 1, greatest) {
				if s, e := store.Load(node, clock, l); s != nil || e != api.ErrArg {
					t.Errorf("Load(%d, %d): %v, %d, want ErrArg", node, clock, s, e)
				}
			}
		}
		for _, clock := range outside(0, greatest) {
			for _, node := range []int{0, 7} {
				if s, e := store.Load(node, clock, l); s != nil || e != api.ErrArg {
					t.Errorf("Load(%d, %d): %v, %d, want ErrArg", node, clock, s, e)
				}
			}
		}
	}
}

// P8.2, R2: all lists of at most three entries of some that may be and some that may not.
func TestLoadAllSamples(t *testing.T) {
	some := []api.Entry{
		entry("", 1, 0, ""), entry("a", 2, 7, "v"), dead("a", 3, 0), entry("b", 4, 1, longValue), entry("b", 9, 1, ""), entry(highest, 1, 0, ""),
		{}, entry("a", 1, 8, ""), entry(tooLongKey, 1, 0, ""), entry("b", 1, 0, tooLongValue), {Key: "c", Version: version(1, 0), Value: "v", Dead: true},
	}
	lists := [][]api.Entry{nil}
	for at := 0; at < len(lists) && len(lists[at]) < 3; at++ {
		for _, e := range some {
			lists = append(lists, append(slices.Clone(lists[at]), e))
		}
	}
	for _, l := range lists {
		for _, clock := range []int{0, 3, 8, 9} {
			s, e := store.Load(2, clock, l)
			if want := loadError(2, clock, l); e != want || (s != nil) != (want == api.OK) {
				t.Fatalf("Load(2, %d, %v): %v, %d, want %d", clock, l, s, e, want)
			}
			if e == api.OK && !slices.Equal(allOf(t, s, whole()), l) {
				t.Fatalf("Load(2, %d, %v) holds %v", clock, l, allOf(t, s, whole()))
			}
		}
	}
}

// R3: the list is neither changed nor kept, nor what lies behind its length.
func TestLoadTakesNothing(t *testing.T) {
	room := entriesOf(oddKeys())
	was := slices.Clone(room)
	s := loaded(t, 1, 100, room[:5]...)
	other := loaded(t, 1, 100, room[:5]...)
	s.Put("a", "changed")
	s.Delete("")
	s.Take(dead("zz", 200, 0))
	if !slices.Equal(room, was) {
		t.Fatalf("the list is %v now, it was %v", room, was)
	}
	same(t, other, &plain{1, 100, slices.Clone(was[:5])})
	spoil(room, entry("spoilt", 1, 1, ""))
	same(t, other, &plain{1, 100, slices.Clone(was[:5])})
}
