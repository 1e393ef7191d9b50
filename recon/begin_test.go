package recon_test

import (
	"testing"

	"tideline/api"
	"tideline/frame"
	"tideline/recon"
)

// leastAndGreatest are the Configs all of whose numbers are at their bounds.
func leastAndGreatest() []api.Config {
	return []api.Config{{Branch: 2, Leaf: 1, Wait: 1, Tries: 0}, {Branch: 16, Leaf: 32, Wait: 100, Tries: 20}}
}

// spoiltConfigs are Configs with a field, or more of them, out of its bounds.
func spoiltConfigs() []api.Config {
	var l []api.Config
	for _, c := range leastAndGreatest() {
		for _, n := range outside(2, 16) {
			l = append(l, api.Config{Branch: n, Leaf: c.Leaf, Wait: c.Wait, Tries: c.Tries})
		}
		for _, n := range outside(1, 32) {
			l = append(l, api.Config{Branch: c.Branch, Leaf: n, Wait: c.Wait, Tries: c.Tries})
		}
		for _, n := range outside(1, 100) {
			l = append(l, api.Config{Branch: c.Branch, Leaf: c.Leaf, Wait: n, Tries: c.Tries})
		}
		for _, n := range outside(0, 20) {
			l = append(l, api.Config{Branch: c.Branch, Leaf: c.Leaf, Wait: c.Wait, Tries: n})
		}
	}
	return append(l, api.Config{}, api.Config{Branch: 1, Leaf: 33, Wait: 0, Tries: 21}, api.Config{Branch: 2, Leaf: 1}, api.Config{Branch: 2, Wait: 1}, api.Config{Leaf: 1, Wait: 1})
}

// P14.1: each number within the bounds, beside the least and the greatest of the others.
func TestConfigsThatMayBe(t *testing.T) {
	var l []api.Config
	for _, c := range leastAndGreatest() {
		for n := 2; n <= 16; n++ {
			l = append(l, api.Config{Branch: n, Leaf: c.Leaf, Wait: c.Wait, Tries: c.Tries})
		}
		for n := 1; n <= 32; n++ {
			l = append(l, api.Config{Branch: c.Branch, Leaf: n, Wait: c.Wait, Tries: c.Tries})
		}
		for n := 1; n <= 100; n++ {
			l = append(l, api.Config{Branch: c.Branch, Leaf: c.Leaf, Wait: n, Tries: c.Tries})
		}
		for n := 0; n <= 20; n++ {
			l = append(l, api.Config{Branch: c.Branch, Leaf: c.Leaf, Wait: c.Wait, Tries: n})
		}
	}
	for _, c := range l {
		if e := recon.CheckConfig(c); e != api.OK {
			t.Errorf("%+v: %d", c, e)
		}
		s := holding(t, 3, many(2))
		_, f := opened(t, s, c, 5, 1, 1)
		joined(t, holding(t, 5, nil), c, f)
	}
}

// P14.1: ErrArg of each field out of its bounds, alone and beside others.
func TestConfigsThatMayNotBe(t *testing.T) {
	for _, c := range spoiltConfigs() {
		if e := recon.CheckConfig(c); e != api.ErrArg {
			t.Errorf("%+v: %d", c, e)
		}
	}
}

// P14.2: the first frame says what all of the store comes to, dead entries too; the talk is of the opener, with that as its last frame.
func TestStart(t *testing.T) {
	for _, held := range sampleMaps() {
		for _, c := range sampleConfigs() {
			for node := range 8 {
				for peer := range 8 {
					if peer != node {
						startPair(t, node, held, c, peer, 1+node, 1+peer)
					}
				}
			}
		}
	}
}

// P14.2: in words of its own: turn 0, one Print of the whole range, Count as many as are held.
func TestStartTells(t *testing.T) {
	s := holding(t, 6, many(100))
	x, f := opened(t, s, config(2, 1), 4, 9, 11)
	all, _ := s.Fold(whole())
	if f.From != 6 || f.To != 4 || f.Session != name(6, 9, 11) || f.Turn != 0 || len(f.Parts) != 1 {
		t.Fatal(brief(f))
	}
	if p := f.Parts[0]; p.Kind != 1 || p.Range != whole() || p.Tally != all || p.Tally.Count != 100 || len(p.Entries) > 0 {
		t.Error(brief(f))
	}
	if x.Session() != name(6, 9, 11) || x.Peer() != 4 || !frame.Same(x.Last(), f) || x.Over() || x.Closed() {
		t.Error(told(look(x)))
	}
}

// P14.2: lives and numbers from their first on to their last.
func TestStartNames(t *testing.T) {
	for _, life := range []int{1, 2, mostLives - 1, mostLives} {
		for _, number := range []int{1, 2, mostLives - 1, mostLives} {
			startPair(t, 0, nil, config(2, 1), 7, life, number)
		}
	}
}

// P14.2: Start changes nothing of the store's map and clock.
func TestStartChangesNothing(t *testing.T) {
	for _, held := range sampleMaps() {
		s := holding(t, 2, held)
		opened(t, s, config(2, 1), 5, 1, 1)
		isAs(t, "Start", s, 2, clockOf(held), held)
	}
}

// P14.2: two talks of one store are apart, whatever their names.
func TestTwoTalks(t *testing.T) {
	s := holding(t, 2, many(9))
	x, _ := opened(t, s, config(2, 1), 5, 1, 1)
	y, _ := opened(t, s, config(2, 1), 5, 1, 2)
	z, _ := opened(t, s, config(2, 1), 5, 1, 1)
	upTo(t, x, 8)
	heard(t, y, next(y))
	isSeen(t, "the second one", y, seen{name(2, 1, 2), 5, y.Last(), true, true})
	if x.Last().Turn != 8 || y.Last().Turn != 0 || z.Last().Turn != 0 || x.Over() || z.Over() {
		t.Error(told(look(x)), told(look(y)), told(look(z)))
	}
}

// P14.3: what the peer answers to the first frame: the closing one, Items, or Prints, as what it holds is the same, little or much.
func TestJoin(t *testing.T) {
	kinds := map[int]int{}
	for _, held := range sampleMaps() {
		for _, own := range sampleMaps() {
			for _, c := range sampleConfigs() {
				first := plainStart(plainOf(3, held), c, 5, 4, 2).last
				p := joinPair(t, 5, own, c, first)
				isAs(t, "Join", p.s, 5, clockOf(own), own)
				if closing := len(p.x.Last().Parts) == 0; p.x.Closed() != closing || p.x.Over() != closing {
					t.Fatal(told(look(p.x)))
				}
				for _, part := range p.x.Last().Parts {
					kinds[part.Kind]++
				}
				kinds[0]++
			}
		}
	}
	if kinds[0] == 0 || kinds[1] == 0 || kinds[2] == 0 || kinds[3] > 0 {
		t.Error(kinds)
	}
}

// P14.3: in words of its own: of f's session, with f's From, turn 1.
func TestJoinTells(t *testing.T) {
	first := api.Frame{From: 7, To: 0, Session: name(7, mostLives, mostLives), Parts: parts(print(whole(), api.Tally{}))}
	x, f := joined(t, holding(t, 0, many(3)), config(2, 1), first)
	if f.From != 0 || f.To != 7 || f.Session != first.Session || f.Turn != 1 || len(f.Parts) != 2 {
		t.Fatal(brief(f))
	}
	isSeen(t, "Join", x, seen{first.Session, 7, f, false, false})
	y, f := joined(t, holding(t, 0, nil), config(2, 1), first)
	if f.From != 0 || f.To != 7 || f.Session != first.Session || f.Turn != 1 || len(f.Parts) != 0 {
		t.Fatal(brief(f))
	}
	isSeen(t, "Join", y, seen{first.Session, 7, f, true, true})
}

// P14.3: between any two nodes, and with any tally that may be.
func TestJoinOfAnyNodes(t *testing.T) {
	for node := range 8 {
		for peer := range 8 {
			for _, own := range []api.Tally{{}, tally(1, 0, 0), tally(1, 1, 1), tally(most, 1<<63, 1<<64-1)} {
				if node != peer {
					first := api.Frame{From: peer, To: node, Session: name(peer, 1, 1), Parts: parts(print(whole(), own))}
					joinPair(t, node, many(5), config(3, 2), first)
				}
			}
		}
	}
}

// The chapter's examples, line by line.
func TestExamples(t *testing.T) {
	a, b := ab()
	s0, s1 := holding(t, 0, a), holding(t, 1, b)
	c := config(2, 1)
	x, f0 := opened(t, s0, c, 1, 1, 1)
	if f0.Turn != 0 || len(f0.Parts) != 1 || f0.Parts[0].Kind != api.PartPrint || f0.Parts[0].Range != whole() || f0.Parts[0].Tally.Count != 2 {
		t.Fatal(brief(f0))
	}
	session := name(0, 1, 1)
	isFrame := func(what string, f api.Frame, from, turn int, l ...api.Part) {
		t.Helper()
		if want := (api.Frame{From: from, To: 1 - from, Session: session, Turn: turn, Parts: l}); !frame.Same(f, want) {
			t.Fatalf("%s: %s, want %s", what, brief(f), brief(want))
		}
	}
	y, f1 := joined(t, s1, c, f0)
	isFrame("Join", f1, 1, 1, items(whole(), b...))
	f2, is, h := heard(t, x, f1)
	isFrame("turn 1", f2, 0, 2, reply(whole(), a[1]))
	if !is || h != (api.Heard{}) {
		t.Fatal(is, h)
	}
	f3, is, h := heard(t, y, f2)
	isFrame("turn 2", f3, 1, 3)
	if !is || h != (api.Heard{Taken: 1}) || !y.Closed() || !y.Over() {
		t.Fatal(is, h, told(look(y)))
	}
	if _, is, h := heard(t, x, f3); is || h != (api.Heard{}) || !x.Closed() || !x.Over() {
		t.Fatal(is, h, told(look(x)))
	}
	quiet(t, "turn 2 once more", y, s1, func() {
		f, is, h := heard(t, y, f2)
		isFrame("turn 2 once more", f, 1, 3)
		if !is || h != (api.Heard{}) {
			t.Fatal(is, h)
		}
	})
	hearRefuses(t, "turn 0 once more", y, s1, f0, api.ErrStale)
	hearRefuses(t, "turn 3 once more", x, s0, f3, api.ErrStale)
	quiet(t, "turn 1 once more", x, s0, func() {
		f, is, h := heard(t, x, f1)
		isFrame("turn 1 once more", f, 0, 2, reply(whole(), a[1]))
		if !is || h != (api.Heard{}) {
			t.Fatal(is, h)
		}
	})
	isAs(t, "the end", s0, 0, 2, a)
	isAs(t, "the end", s1, 1, 2, a)
	joinRefuses(t, "turn 2", s1, c, f2, api.ErrStale)
	startRefuses(t, "peer 0", s0, c, 0, 1, 1, api.ErrEnds)
	startRefuses(t, "life 0", s0, c, 1, 0, 1, api.ErrName)
	startRefuses(t, "Branch 1", s0, config(1, 1), 1, 1, 1, api.ErrArg)
}
