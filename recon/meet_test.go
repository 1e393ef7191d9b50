package recon_test

import (
	"math/rand/v2"
	"slices"
	"testing"

	"tideline/api"
	"tideline/cuts"
	"tideline/frame"
	"tideline/merge"
	"tideline/recon"
	"tideline/store"
)

// meeting is a session between the stores of nodes 3 and 5, of which the first is the opener's, and what has been said in it.
type meeting struct {
	s3, s5 *store.Store
	x, y   *recon.Talk
	frames []api.Frame
	all    api.Heard
}

// begun is a session whose first frame has been answered.
func begun(t *testing.T, a, b []api.Entry, c3, c5 api.Config) *meeting {
	t.Helper()
	m := &meeting{s3: holding(t, 3, a), s5: holding(t, 5, b)}
	var first, second api.Frame
	m.x, first = opened(t, m.s3, c3, 5, 1, 1)
	m.y, second = joined(t, m.s5, c5, first)
	m.frames = append(m.frames, first, second)
	return m
}

// awaits is whose turn it is to hear the last frame that was said.
func (m *meeting) awaits() (*recon.Talk, *store.Store) {
	if len(m.frames)%2 == 0 {
		return m.x, m.s3
	}
	return m.y, m.s5
}

// step hands the last frame to whom it goes; it says whether there was an answer.
func (m *meeting) step(t *testing.T) bool {
	t.Helper()
	x, _ := m.awaits()
	answer, is, h := heard(t, x, m.frames[len(m.frames)-1])
	m.all.Taken += h.Taken
	m.all.Refused += h.Refused
	if is {
		m.frames = append(m.frames, answer)
	}
	return is
}

// through goes on until nobody answers any more, and asks that both sides are closed.
func (m *meeting) through(t *testing.T) *meeting {
	t.Helper()
	for m.step(t) {
		if len(m.frames) > lastTurn+1 {
			t.Fatalf("%d frames", len(m.frames))
		}
	}
	if !m.x.Closed() || !m.y.Closed() || !m.x.Over() || !m.y.Over() {
		t.Fatalf("%d frames: %s, %s", len(m.frames), told(look(m.x)), told(look(m.y)))
	}
	for i, f := range m.frames {
		if f.Turn != i || frame.Check(f) != api.OK || frame.Closing(f) != (i == len(m.frames)-1) {
			t.Fatalf("the frame %d is %s", i, brief(f))
		}
	}
	return m
}

func (m *meeting) moved() int {
	n := 0
	for _, f := range m.frames {
		n += frame.Entries(f)
	}
	return n
}

// fits asks that no two entries of one key and one version are unlike: of other maps nothing is promised.
func fits(t *testing.T, a, b []api.Entry) {
	t.Helper()
	for _, e := range a {
		if i, is := place(b, e.Key); is && b[i].Version == e.Version && b[i] != e {
			t.Fatalf("%s and %s", quoted(e), quoted(b[i]))
		}
	}
}

// meets asks for P14.7 of a session between nodes that hold a and b.
func meets(t *testing.T, a, b []api.Entry, c3, c5 api.Config) *meeting {
	t.Helper()
	fits(t, a, b)
	m := begun(t, a, b, c3, c5).through(t)
	newest, e := merge.Max(a, b)
	if e != api.OK {
		t.Fatal(e)
	}
	if fit := len(newest) <= most; fit != (m.all.Refused == 0) {
		t.Fatalf("%d and %d entries, newest %d: %v", len(a), len(b), len(newest), m.all)
	}
	if m.all.Refused == 0 {
		isAs(t, "the opener", m.s3, 3, clockOf(newest), newest)
		isAs(t, "the peer", m.s5, 5, clockOf(newest), newest)
		if lacked := len(plainLacks(newest, a)) + len(plainLacks(newest, b)); m.all.Taken != lacked {
			t.Fatalf("%d and %d entries: %v, want %d", len(a), len(b), m.all, lacked)
		}
	}
	isAbove(t, "the opener", m.s3, a)
	isAbove(t, "the peer", m.s5, b)
	return m
}

// isAbove asks that under no key of l the store holds none, or an older one.
func isAbove(t *testing.T, what string, s *store.Store, l []api.Entry) {
	t.Helper()
	now := heldBy(t, s)
	for _, e := range l {
		if i, is := place(now, e.Key); !is || isNewer(e.Version, now[i].Version) {
			t.Fatalf("%s: %s was held, and has given way to an older one, or to none", what, quoted(e))
		}
	}
}

// costs asks for P14.8 besides, both sides having the same Config.
func costs(t *testing.T, a, b []api.Entry, c api.Config) *meeting {
	t.Helper()
	m := meets(t, a, b, c, c)
	differ, _ := merge.Differ(a, b)
	turns, _ := cuts.Turns(c.Branch)
	moves, _ := cuts.Moves(len(differ), c.Leaf)
	if len(m.frames) > turns || m.moved() > moves {
		t.Fatalf("%d and %d entries, %d keys differ, %v: %d frames, at most %d; %d entries, at most %d", len(a), len(b), len(differ), c, len(m.frames), turns, m.moved(), moves)
	}
	if len(differ) == 0 && (len(m.frames) != 2 || m.moved() != 0) {
		t.Fatalf("%d entries each, the same: %d frames, %d entries", len(a), len(m.frames), m.moved())
	}
	return m
}

// P14.7, P14.8: maps of all sorts, each with each, also such as have no room for all of both.
func TestMapsMeet(t *testing.T) {
	full := under(numbered(1000, most), 3)
	maps := append(sampleMaps(), full, full[:most/2], under(numbered(0, most), 5000), under(numbered(100, most), 9000))
	refused := 0
	for _, a := range maps {
		for _, b := range maps {
			for _, c := range sampleConfigs() {
				refused += costs(t, a, b, c).all.Refused
			}
		}
	}
	if refused < 1000 {
		t.Errorf("%d were refused", refused)
	}
}

// P14.8: equal maps: two frames, no entry, whatever they hold.
func TestEqualMaps(t *testing.T) {
	for _, l := range sampleMaps() {
		for branch := 2; branch <= 16; branch++ {
			for leaf := 1; leaf <= 32; leaf++ {
				if m := costs(t, l, l, config(branch, leaf)); len(m.frames) != 2 || m.moved() != 0 || m.all != (api.Heard{}) {
					t.Fatalf("%d entries: %d frames, %d entries, %v", len(l), len(m.frames), m.moved(), m.all)
				}
			}
		}
	}
}

// P14.7, P14.8: maps that differ under one key: lacking at one side, newer there, dead there, at each place.
func TestOneKeyDiffers(t *testing.T) {
	for _, n := range []int{1, 2, 3, 17, 100, most - 1, most} {
		l := many(n)
		for i := 0; i < n; i += 1 + n/10 {
			newer, gone := slices.Clone(l), slices.Clone(l)
			newer[i].Version.Counter += 1000
			gone[i] = dead(l[i].Key, 2000, 7)
			without := slices.Delete(slices.Clone(l), i, i+1)
			for _, other := range [][]api.Entry{newer, gone, without} {
				for _, c := range sampleConfigs() {
					for _, m := range []*meeting{costs(t, l, other, c), costs(t, other, l, c)} {
						if m.all != (api.Heard{Taken: 1}) || m.moved() > c.Leaf+1 {
							t.Fatalf("%d entries, %v: %v, %d entries moved", n, c, m.all, m.moved())
						}
					}
				}
			}
		}
	}
}

// P14.7, P14.8: maps that differ under all keys, by versions, or by keys that lie between each other's.
func TestAllKeysDiffer(t *testing.T) {
	for _, n := range []int{1, 2, 3, 17, 64, 127, 128, 129, 200, most} {
		a := many(n)
		newer := under(numbered(0, n), 1000)
		between := under(numbered(0, n), 300)
		for i := range between {
			between[i].Key += "+"
		}
		mixed := slices.Clone(newer)
		for i := range mixed {
			if i%2 == 0 {
				mixed[i].Version.Counter = a[i].Version.Counter
				mixed[i].Version.Node = (a[i].Version.Node + 3) % 8
			}
		}
		for _, c := range sampleConfigs() {
			for _, b := range [][]api.Entry{newer, between, mixed, nil} {
				costs(t, a, b, c)
				costs(t, b, a, c)
			}
		}
	}
}

// P14.7: of one Counter the greater node's entry is held by both behind it, whoever had it; the clocks are the same.
func TestBothWrote(t *testing.T) {
	a, b := list(entry("k", 4, 0, "zero")), list(entry("k", 4, 1, "one"))
	for _, l := range [][2][]api.Entry{{a, b}, {b, a}} {
		m := costs(t, l[0], l[1], config(2, 1))
		isAs(t, "the opener", m.s3, 3, 4, b)
		isAs(t, "the peer", m.s5, 5, 4, b)
		if v, e := m.s3.Put("k", ""); v != (api.Version{Counter: 5, Node: 3}) || e != api.OK {
			t.Error(v, e)
		}
	}
}

// P14.7: a full store refuses, and both sides close all the same; what both held stays.
func TestFullStores(t *testing.T) {
	for _, more := range []int{1, 2, 33, most} {
		a, b := many(most), under(numbered(most, more), 7)
		for _, c := range sampleConfigs() {
			for _, m := range []*meeting{costs(t, a, b, c), costs(t, b, a, c)} {
				// The full one refuses all of the other's, and the other one what it has no room for.
				if m.all != (api.Heard{Taken: most - more, Refused: 2 * more}) || m.s3.Len() != most || m.s5.Len() != most {
					t.Errorf("%d more: %v, %d and %d entries", more, m.all, m.s3.Len(), m.s5.Len())
				}
			}
		}
	}
}

// someMap is a map of some of these keys, each with one of few versions; what stands there is the same for all of one key and version.
func someMap(rnd *rand.Rand, keys []string) []api.Entry {
	var l []api.Entry
	often := 1 + rnd.IntN(6)
	for i, key := range keys {
		if rnd.IntN(often) > 0 || rnd.IntN(20) == 0 {
			counter, node := 1+rnd.IntN(3), rnd.IntN(2)
			if (i+counter)%4 == 0 {
				l = append(l, dead(key, counter, node))
			} else {
				l = append(l, entry(key, counter, node, string([]byte{byte(counter), byte(node), byte(i)})))
			}
		}
	}
	return l
}

// near is a map that differs from l under a few of these keys.
func near(rnd *rand.Rand, l []api.Entry, keys []string) []api.Entry {
	other := someMap(rnd, keys)
	l = slices.Clone(l)
	for range rnd.IntN(8) {
		key := keys[rnd.IntN(len(keys))]
		i, is := place(l, key)
		j, also := place(other, key)
		switch {
		case is && also:
			l[i] = other[j]
		case is:
			l = slices.Delete(l, i, i+1)
		case also:
			l = slices.Insert(l, i, other[j])
		}
	}
	return l
}

// P14.7, P14.8: any maps, near each other and far.
func TestAnyMapsMeet(t *testing.T) {
	rnd := rand.New(rand.NewPCG(14, 7))
	for range 3000 {
		keys := [][]string{oddKeys(), numbered(0, 40), numbered(0, most)}[rnd.IntN(3)]
		a, b := someMap(rnd, keys), someMap(rnd, keys)
		if rnd.IntN(3) > 0 {
			b = near(rnd, a, keys)
		}
		costs(t, a, b, config(2+rnd.IntN(15), 1+rnd.IntN(32)))
	}
}

// P14.7: also where each side has a Config of its own.
func TestUnlikeConfigsMeet(t *testing.T) {
	rnd := rand.New(rand.NewPCG(14, 77))
	for range 1000 {
		keys := [][]string{oddKeys(), numbered(0, 40), numbered(0, most)}[rnd.IntN(3)]
		a, b := someMap(rnd, keys), someMap(rnd, keys)
		meets(t, a, b, config(2+rnd.IntN(15), 1+rnd.IntN(32)), config(2+rnd.IntN(15), 1+rnd.IntN(32)))
	}
	for _, a := range sampleMaps() {
		for _, b := range sampleMaps() {
			for _, c := range sampleConfigs() {
				meets(t, a, b, c, config(16, 1))
				meets(t, a, b, config(2, 32), c)
			}
		}
	}
}

// P14.7: a second session between the same nodes finds equal maps.
func TestSecondSession(t *testing.T) {
	m := costs(t, many(100), under(numbered(50, 100), 700), config(3, 2))
	costs(t, heldBy(t, m.s3), heldBy(t, m.s5), config(3, 2))
	x, first := opened(t, m.s5, config(2, 1), 3, 1, 1)
	y, closing := joined(t, m.s3, config(2, 1), first)
	if _, is, _ := heard(t, x, closing); is || !x.Closed() || !y.Closed() || len(closing.Parts) > 0 {
		t.Error(brief(closing), is)
	}
}

// P14.8: where the maps are as far apart as can be, what it costs comes near its bound, so that the bound is asked for in earnest.
func TestBoundsAreReached(t *testing.T) {
	a, b := many(most), under(numbered(0, most), 1000)
	if m := costs(t, a, b, config(2, 1)); len(m.frames) < 10 || m.moved() < most {
		t.Errorf("%d frames, %d entries", len(m.frames), m.moved())
	}
	one, both := ab()
	if m := costs(t, one, both, config(2, 1)); m.moved() != 2 || len(m.frames) != 4 {
		t.Errorf("%d frames, %d entries", len(m.frames), m.moved())
	}
}

// P14.5, P14.7: a whole session, frame by frame, held against the second reading of both sides.
func TestSaidAsReadAgain(t *testing.T) {
	rnd := rand.New(rand.NewPCG(14, 70))
	for range 300 {
		keys := [][]string{oddKeys(), numbered(0, 40), numbered(0, most)}[rnd.IntN(3)]
		a := someMap(rnd, keys)
		b := near(rnd, a, keys)
		c := config(2+rnd.IntN(15), 1+rnd.IntN(32))
		x := startPair(t, 3, a, c, 5, 1, 1)
		y := joinPair(t, 5, b, c, x.x.Last())
		f, is := y.x.Last(), true
		for hearer := x; is; {
			f, is, _, _ = hearer.hear(t, f)
			if hearer == x {
				hearer = y
			} else {
				hearer = x
			}
		}
		if !x.x.Closed() || !y.x.Closed() {
			t.Fatal(told(look(x.x)), told(look(y.x)))
		}
	}
}
