package tree_test

import (
	"math/rand/v2"
	"testing"

	"tideline/tally"
	"tideline/tree"
)

// turn is what x becomes: a times x, and b; the one ahead is done first. Turns do not commute, and do not grow.
type turn struct{ a, b uint64 }

const prime = 1<<31 - 1

func joinTurns(x, y turn) turn {
	return turn{x.a * y.a % prime, (x.b*y.a + y.b) % prime}
}

func turnOf(i int) turn { return turn{uint64(i)*7919%prime + 2, uint64(i)*104729%prime + 1} }

// counted joins turns, and counts how often.
type counted struct {
	*tree.Tree[int, turn]
	joins *int
}

func newCounted() counted {
	joins := new(int)
	return counted{tree.New[int, turn](turn{1, 0}, func(a, b turn) turn {
		*joins++
		return joinTurns(a, b)
	}), joins}
}

// newFilled has n rows, put in that order; row i has the value i and the summary turnOf(i).
func newFilled(o order, n int) counted {
	c := newCounted()
	keys := numbered(n)
	for _, i := range o.numbers(n) {
		c.Put(keys[i], i, turnOf(i))
	}
	return c
}

// bound goes by the words of P6.7.
func bound(n int) int {
	l := 0
	for power := 1; power < n+1; power *= 2 {
		l++
	}
	return 16 * (1 + l)
}

// within holds what a call joins against the bound of the rows that there are then.
func (c counted) within(t *testing.T, what string, call func()) {
	t.Helper()
	was := *c.joins
	call()
	if n := *c.joins - was; n > bound(c.Len()) {
		t.Fatalf("%s joined %d times, with %d rows: at most %d", what, n, c.Len(), bound(c.Len()))
	}
}

// free holds against a call that it joins at all.
func (c counted) free(t *testing.T, what string, call func()) {
	t.Helper()
	was := *c.joins
	call()
	if n := *c.joins - was; n != 0 {
		t.Fatalf("%s joined %d times, with %d rows", what, n, c.Len())
	}
}

// P6.7: the bound is that of layer 5.
func TestBound(t *testing.T) {
	for n := range 5000 {
		if bound(n) != tally.Bound(n) {
			t.Fatalf("with %d rows: %d, by layer 5 %d", n, bound(n), tally.Bound(n))
		}
	}
}

// P6.7: at every Put, of new keys and of those that are there, and at every Fold of small trees.
func TestCostOfSmallTrees(t *testing.T) {
	const most = 64
	keys := numbered(most)
	for _, o := range orders() {
		c := newCounted()
		put := o.numbers(most)
		for n, i := range put {
			c.within(t, o.name+": Put", func() { c.Put(keys[i], i, turnOf(i)) })
			for _, again := range put[:n+1] {
				c.within(t, o.name+": Put again", func() { c.Put(keys[again], n, turnOf(again)) })
			}
			for i := -1; i <= n+2; i++ {
				for j := -1; j <= n+2; j++ {
					c.within(t, o.name+": Fold", func() { c.Fold(i, j) })
				}
			}
		}
	}
}

// P6.7: trees of many rows.
func TestCostOfGreatTrees(t *testing.T) {
	const most = 12000
	rnd := rand.New(rand.NewPCG(6, 7))
	keys := numbered(most)
	for _, o := range orders() {
		c := newCounted()
		for n, i := range o.numbers(most) {
			c.within(t, o.name+": Put", func() { c.Put(keys[i], i, turnOf(i)) })
			if n%5 == 0 {
				again := rnd.IntN(n + 1)
				key, v, _ := c.At(again)
				c.within(t, o.name+": Put again", func() { c.Put(key, v, turnOf(v)) })
			}
			c.within(t, o.name+": Fold of all", func() { c.Fold(0, n+1) })
			c.within(t, o.name+": Fold of all but the ends", func() { c.Fold(1, n) })
			c.within(t, o.name+": Fold", func() { c.Fold(rnd.IntN(n+1), rnd.IntN(n+2)) })
			c.within(t, o.name+": Fold of about half", func() { c.Fold(n/4, n-n/4) })
		}
		if c.Len() != most {
			t.Fatalf("%s: %d rows, want %d", o.name, c.Len(), most)
		}
	}
}

// P6.7: a tree whose rows are put in any order, some of them again, and its clones.
func TestCostOfClones(t *testing.T) {
	rnd := rand.New(rand.NewPCG(6, 77))
	keys := numbered(4000)
	c := newCounted()
	for range 5 {
		for range 3000 {
			i := rnd.IntN(len(keys))
			c.within(t, "Put", func() { c.Put(keys[i], i, turnOf(i)) })
			c.within(t, "Fold", func() { c.Fold(rnd.IntN(c.Len()), rnd.IntN(c.Len()+1)) })
		}
		c.free(t, "Clone", func() { c.Tree = c.Clone() })
	}
}

// P6.7: all calls but Put and Fold, and iterators.
func TestCostOfOtherCalls(t *testing.T) {
	keys := numbered(300)
	for _, o := range orders() {
		c := newCounted()
		for n, i := range o.numbers(len(keys)) {
			c.free(t, "Get", func() { c.Get(keys[i]); c.Get(keys[n]); c.Get("") })
			c.free(t, "Len", func() { c.Len() })
			c.free(t, "Rank", func() { c.Rank(keys[i]); c.Rank(keys[n]); c.Rank("\xff") })
			c.free(t, "At", func() { c.At(n / 2); c.At(n); c.At(-1) })
			c.free(t, "Clone", func() { c.Clone().Clone() })
			c.free(t, "an iterator", func() {
				rows := c.Span(n/4, n)
				for range rows {
					for range c.All() {
						break
					}
				}
				for range rows {
				}
			})
			c.Put(keys[i], i, turnOf(i))
		}
		rows := c.All()
		c.Put("", 0, turnOf(0))
		c.free(t, "a kept iterator", func() {
			for range rows {
			}
		})
	}
}

// P6.7: New joins nothing, nor does Fold of no rows need it.
func TestCostOfNone(t *testing.T) {
	c := newCounted()
	if *c.joins != 0 {
		t.Errorf("New joined %d times", *c.joins)
	}
	for _, i := range edges(0) {
		for _, j := range edges(0) {
			c.within(t, "Fold", func() { c.Fold(i, j) })
		}
	}
}
