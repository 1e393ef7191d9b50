package ghost_test

import (
	"math/rand/v2"
	"slices"
	"testing"

	"tideline/api"
	"tideline/cuts"
	"tideline/ghost"
	"tideline/recon"
	"tideline/store"
)

// holding is a node's store that holds these entries.
func holding(t *testing.T, node int, l []api.Entry) *store.Store {
	t.Helper()
	clock := 0
	for _, x := range l {
		clock = max(clock, x.Version.Counter)
	}
	s, e := store.Load(node, clock, l)
	if e != api.OK {
		t.Fatalf("Load of %s: %d", short(l), e)
	}
	return s
}

func heldBy(s *store.Store, r api.Range) []api.Entry {
	all, _ := s.All(r)
	return slices.Collect(all)
}

// outcome is what came of a session: the first range of which a Print was heard that came to what the other side held, though that was unlike; and what it cost.
type outcome struct {
	first                  compared
	frames, moved, refused int
}

// look sees what a frame says to who hears it.
func (o *outcome) look(f api.Frame, sender, hearer *store.Store) {
	o.frames++
	for _, p := range f.Parts {
		o.moved += len(p.Entries)
		sent, held := heldBy(sender, p.Range), heldBy(hearer, p.Range)
		sum, _ := hearer.Fold(p.Range)
		if p.Kind == api.PartPrint && sum == p.Tally && !sameVersions(sent, held) && !o.first.twins {
			o.first = compared{p.Range, f.Turn, true}
		}
	}
}

// session has the one store's node open a session with the other's, in which every frame comes once, up to its end, at which both sides are closed.
func session(t *testing.T, one, other *store.Store, c api.Config) outcome {
	t.Helper()
	c.Wait = 1
	var o outcome
	x, f, e := recon.Start(one, c, other.Node(), 1, 1)
	if e != api.OK {
		t.Fatalf("Start: %d", e)
	}
	o.look(f, one, other)
	y, f, h, e := recon.Join(other, c, f)
	hearer, is := x, true
	sender, to := other, one
	for is && e == api.OK {
		o.look(f, sender, to)
		f, is, h, e = hearer.Hear(f)
		o.refused += h.Refused
		sender, to = to, sender
		if hearer == x {
			hearer = y
		} else {
			hearer = x
		}
	}
	if e != api.OK || !x.Closed() || !y.Closed() {
		t.Fatalf("error %d; closed: %t, %t", e, x.Closed(), y.Closed())
	}
	return o
}

// asPlayed holds what is told of a session between a and b against one that is played; it tells that one's verdict.
func asPlayed(t *testing.T, a, b []api.Entry, c api.Config) api.Verdict {
	t.Helper()
	one, other := holding(t, 3, a), holding(t, 5, b)
	o := session(t, one, other, c)
	isTold(t, a, b, c.Branch, c.Leaf, o.first.r)
	x, y := heldBy(one, whole()), heldBy(other, whole())
	v, e := ghost.Judge(a, b, x, y, c, o.refused)
	if want, _ := plainJudge(a, b, x, y, c, o.refused); e != api.OK || v != want || v.Kind == api.VerdictNone {
		t.Fatalf("%s and %s, %v: %s, %d, want %s", short(a), short(b), c, quoted(v), e, quoted(want))
	}
	if v.Kind == api.VerdictTwins && v.Range != o.first.r {
		t.Fatalf("%s and %s, %v: %s, but %s was compared", short(a), short(b), c, quoted(v), quoted(o.first.r))
	}
	if v.Kind == api.VerdictMet && o.refused > 0 || v.Kind == api.VerdictFull && o.refused == 0 {
		t.Fatalf("%s and %s, %v: %s, and %d refused", short(a), short(b), c, quoted(v), o.refused)
	}
	cost(t, a, b, c, o)
	return v
}

// cost asks for W6.
func cost(t *testing.T, a, b []api.Entry, c api.Config, o outcome) {
	t.Helper()
	d := 0
	inA, inB := byKey(a), byKey(b)
	for _, key := range keysOfEither(a, b) {
		if inA[key].Version != inB[key].Version {
			d++
		}
	}
	turns, _ := cuts.Turns(c.Branch)
	if o.frames > turns || o.moved > d*(c.Leaf+1) || d == 0 && o.frames != 2 {
		t.Fatalf("%s and %s, %v, %d keys differ: %d frames, %d entries moved", short(a), short(b), c, d, o.frames, o.moved)
	}
}

// P19.3, P19.4, W5, W6: sessions between maps of all sorts end as the judge says: they meet, or an entry is refused.
func TestSessionsOfSamples(t *testing.T) {
	samples := append(sampleMaps(), many(most), many(most-1), under(numbered(100, most), 400), alike(allKeys(most)))
	kinds := map[int]int{}
	for _, a := range samples {
		for _, b := range samples {
			for _, c := range []api.Config{config(2, 1), config(16, 1), config(2, 32), config(16, 32), config(5, 3)} {
				kinds[asPlayed(t, a, b, c).Kind]++
			}
		}
	}
	if kinds[1] < 500 || kinds[3] < 50 {
		t.Errorf("kinds: %v", kinds)
	}
}

// P19.3, P19.4, W5, W6: sessions between any maps, in many of which there are twins.
func TestSessionsOfTwins(t *testing.T) {
	rnd := rand.New(rand.NewPCG(19, 5))
	kinds := map[int]int{}
	for range 1500 {
		a, b := withTwins(rnd, [][]string{oddKeys(), allKeys(8), allKeys(60), allKeys(most - 16)}[rnd.IntN(4)])
		kinds[asPlayed(t, a, b, config(2+rnd.IntN(15)*rnd.IntN(2), 1+rnd.IntN(32)*rnd.IntN(2))).Kind]++
	}
	for _, branch := range []int{2, 3, 7, 16} {
		for _, n := range []int{2, 17, 100, most} {
			a, b := deep(n)
			kinds[asPlayed(t, a, b, config(branch, 1)).Kind]++
			kinds[asPlayed(t, b, a, config(branch, 1)).Kind]++
			lowers, uppers := pairs(n)
			kinds[asPlayed(t, lowers, uppers, config(branch, 1)).Kind]++
		}
	}
	if kinds[1] < 200 || kinds[2] < 400 {
		t.Errorf("kinds: %v", kinds)
	}
}

// P19.4: one more key than there is room for: the judge says that an entry was refused.
func TestFullSession(t *testing.T) {
	if v := asPlayed(t, list(at("z", 1)), many(most), config(2, 1)); v != full {
		t.Error(v)
	}
	if v := asPlayed(t, many(most), list(at("z", 1)), config(2, 1)); v != full {
		t.Error(v)
	}
	if v := asPlayed(t, list(at("z", 1)), many(most-1), config(2, 1)); v != met {
		t.Error(v)
	}
}

// nodes are the stores of some nodes, and a ghost that is told of all that is written there.
type nodes struct {
	g *ghost.Ghost
	l []*store.Store
}

// write has a node put or delete a key, and tells the ghost of it.
func (n nodes) write(t *testing.T, node int, key, value string, gone bool) {
	t.Helper()
	x := api.Entry{Key: key, Value: value, Dead: gone}
	var e api.Errno
	if gone {
		x.Value = ""
		x.Version, e = n.l[node].Delete(key)
	} else {
		x.Version, e = n.l[node].Put(key, value)
	}
	if e != api.OK {
		t.Fatal(e)
	}
	wrote(t, n.g, x)
}

// seen asks that nothing is wrong with what each node holds.
func (n nodes) seen(t *testing.T) {
	t.Helper()
	for node, s := range n.l {
		sees(t, n.g, node, heldBy(s, whole()), "", api.OK)
	}
}

// P19.1, P19.2, W3: of nodes that write and reconcile none moves back, and none holds what was not written.
func TestNodesMoveUp(t *testing.T) {
	for seed := range uint64(8) {
		rnd := rand.New(rand.NewPCG(seed, 19))
		n := nodes{g: ghost.New()}
		for node := range allNodes {
			n.l = append(n.l, holding(t, node, nil))
		}
		keys := allKeys(20)
		for range 120 {
			one, other := rnd.IntN(allNodes), rnd.IntN(allNodes)
			if one != other {
				session(t, n.l[one], n.l[other], config(2, 1))
			}
			n.seen(t)
			n.write(t, one, keys[rnd.IntN(len(keys))], keys[rnd.IntN(len(keys))], rnd.IntN(3) == 0)
			n.seen(t)
		}
	}
}

// P19.2, W3: a node that took what nobody wrote, that lost what it had, or that has an older map again, is found out.
func TestNodesAreFoundOut(t *testing.T) {
	n := nodes{g: ghost.New(), l: []*store.Store{holding(t, 0, nil), holding(t, 1, nil)}}
	n.write(t, 0, "a", "x", false)
	n.write(t, 0, "b", "y", false)
	n.seen(t)
	older := n.l[0].Clone()
	n.write(t, 0, "b", "", true)
	n.write(t, 1, "c", "z", false)
	session(t, n.l[0], n.l[1], config(2, 1))
	n.seen(t)
	sees(t, n.g, 0, heldBy(older, whole()), "b", api.ErrBack)
	sees(t, n.g, 1, nil, "a", api.ErrBack)
	forged := entry("bb", 9, 1, "nobody's")
	n.l[0].Take(forged)
	sees(t, n.g, 0, heldBy(n.l[0], whole()), "bb", api.ErrForged)
	session(t, n.l[1], n.l[0], config(2, 1))
	sees(t, n.g, 1, heldBy(n.l[1], whole()), "bb", api.ErrForged)
	wrote(t, n.g, forged)
	n.seen(t)
}
