package session_test

import (
	"testing"

	"tideline/api"
	"tideline/session"
)

// P16.1: a desk that has had no session, at tick 0, for Configs and lives at their edges, of each node.
func TestNew(t *testing.T) {
	for node := range 8 {
		for _, c := range sampleConfigs() {
			for _, life := range []int{1, 2, 1000, mostLives - 1, mostLives} {
				s := holding(t, node, many(3))
				untouched(t, "New", s, func() {
					d, e := session.New(s, c, life)
					if d == nil || e != api.OK {
						t.Fatalf("New(%v, %d): %d", c, life, e)
					}
					isTold(t, "New", d, 0)
					ticks(t, d, 3)
					isTold(t, "three ticks", d, 3)
				})
			}
		}
	}
}

// P16.1: ErrArg of Configs that may not be, of lives that may not be, and of both; the store is as it was.
func TestNewRefuses(t *testing.T) {
	s := holding(t, 3, many(9))
	refuses := func(c api.Config, life int) {
		t.Helper()
		untouched(t, "New", s, func() {
			if d, e := session.New(s, c, life); d != nil || e != api.ErrArg {
				t.Errorf("New(%v, %d): %v, %d", c, life, d != nil, e)
			}
		})
	}
	for _, c := range spoiltConfigs() {
		refuses(c, 1)
		refuses(c, mostLives)
		refuses(c, 0)
		refuses(c, mostLives+1)
	}
	for _, life := range outside(1, mostLives) {
		for _, c := range sampleConfigs() {
			refuses(c, life)
		}
	}
}

// P16.1: a session is of the desk's life, and goes by its Config, whether it was opened here or begun here.
func TestLifeAndConfig(t *testing.T) {
	for _, life := range []int{1, 2, mostLives} {
		for _, branch := range []int{2, 5, 16} {
			s := holding(t, 3, many(64))
			d, e := session.New(s, config(branch, 1, 7, 0), life)
			if e != api.OK {
				t.Fatal(e)
			}
			f := opened(t, d, 5)
			if f.Session != name(3, life, 1) {
				t.Errorf("life %d: %v", life, f.Session)
			}
			for _, answer := range []api.Frame{
				answered(t, d, back(f, other(whole()))),
				answered(t, d, first(name(5, 9, 9), 3, other(whole()))),
			} {
				if len(answer.Parts) != branch {
					t.Errorf("Branch %d: %s", branch, brief(answer))
				}
			}
			ticks(t, d, 6)
			if l, lost := d.Tick(); len(l) != 0 || len(lost) != 2 {
				t.Errorf("tick 7: %s, %v", briefly(l), lost)
			}
		}
		for _, leaf := range []int{1, 31, 32} {
			d := desk(t, holding(t, 3, many(leaf)), config(2, leaf, 1, 0))
			answer := answered(t, d, first(name(5, 9, 9), 3, other(whole())))
			if len(answer.Parts) != 1 || len(answer.Parts[0].Entries) != leaf {
				t.Errorf("Leaf %d: %s", leaf, brief(answer))
			}
		}
	}
}

// R3: desks have nothing in common but the store that they were made with: neither sessions, nor ticks, nor numbers, nor what they refuse.
func TestDesksAreApart(t *testing.T) {
	s := holding(t, 3, list(at("a")))
	c := plainConfig()
	one, two, elsewhere := desk(t, s, c), desk(t, s, c), desk(t, holding(t, 3, list(at("a"))), c)
	for i := range 4 {
		opened(t, one, 5)
		answered(t, one, first(name(5, 1, i+1), 3, other(whole())))
		answered(t, one, agreeing(t, name(6, 1, i+1), s))
		one.Tick()
	}
	for range 10 {
		one.Tick()
	}
	if len(one.Talks()) != 4 {
		t.Fatal(one.Talks())
	}
	for _, d := range []*session.Desk{two, elsewhere} {
		isTold(t, "another desk", d, 0)
		if f := opened(t, d, 5); f.Session != name(3, 1, 1) {
			t.Errorf("another desk: %s", brief(f))
		}
		answered(t, d, first(name(5, 1, 1), 3, other(whole())))
	}
	// What one of them takes the other one's sessions say, too.
	f := opened(t, one, 5)
	if _, _, h := heard(t, one, back(f, items(whole(), at("b"), at("c")))); h.Taken != 2 {
		t.Fatal(h)
	}
	if f := opened(t, two, 5); f.Parts[0].Tally.Count != 3 {
		t.Errorf("of one store: %s", brief(f))
	}
	if f := opened(t, elsewhere, 5); f.Parts[0].Tally.Count != 1 {
		t.Errorf("of another store: %s", brief(f))
	}
}
