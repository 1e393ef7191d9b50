package tree_test

import (
	"math/rand/v2"
	"slices"
	"strconv"
	"testing"
)

// P6.6: of a tree without rows, of one row, of many.
func TestClone(t *testing.T) {
	for _, n := range []int{0, 1, 2, 3, 40} {
		x := newTexts()
		p := fill(x, lines(numbered(n)))
		c := x.Clone()
		same(t, c, p)
		same(t, x, p)
		if c == x {
			t.Fatal("the clone is the tree itself")
		}
		mine, theirs := line{"mine", 1, "m"}, line{"theirs", 2, "t"}
		x.Put(mine.key, mine.value, mine.sum)
		c.Put(theirs.key, theirs.value, theirs.sum)
		withMine, _, _ := p.put(mine)
		withTheirs, _, _ := p.put(theirs)
		same(t, x, withMine)
		same(t, c, withTheirs)
	}
}

// P6.6: rows that both have are put anew at either.
func TestCloneRowsPutAgain(t *testing.T) {
	const n = 25
	for at := range n {
		x := newTexts()
		p := fill(x, lines(numbered(n)))
		c := x.Clone()
		one, other := p[at], p[n-1-at]
		one.value, one.sum = 500, "one"
		other.value, other.sum = 600, "other"
		if was, over := x.Put(one.key, one.value, one.sum); was != at+1 || !over {
			t.Fatalf("Put: %d, %t", was, over)
		}
		same(t, c, p)
		if was, over := c.Put(other.key, other.value, other.sum); was != n-at || !over {
			t.Fatalf("the clone's Put: %d, %t", was, over)
		}
		withOne, _, _ := p.put(one)
		withOther, _, _ := p.put(other)
		same(t, x, withOne)
		same(t, c, withOther)
	}
}

// P6.6: clones of clones, all of which go their own way; and iterators that were kept of each (P6.5).
func TestClonesOfClones(t *testing.T) {
	type pair struct {
		x *texts
		p plain
	}
	type kept struct {
		rows func(func(string, int) bool)
		want plain
	}
	for seed := range uint64(5) {
		rnd := rand.New(rand.NewPCG(66, seed))
		keys := append(oddKeys(), numbered(20)...)
		all := []pair{{newTexts(), nil}}
		var iterators []kept
		for n := range 400 {
			one := &all[rnd.IntN(len(all))]
			if rnd.IntN(20) == 0 {
				all = append(all, pair{one.x.Clone(), one.p})
				continue
			}
			if rnd.IntN(10) == 0 {
				iterators = append(iterators, kept{one.x.All(), one.p}, kept{one.x.Span(2, 9), one.p.part(2, 9)})
			}
			l := line{keys[rnd.IntN(len(keys))], n, strconv.Itoa(n) + ","}
			now, was, over := one.p.put(l)
			if got, is := one.x.Put(l.key, l.value, l.sum); got != was || is != over {
				t.Fatalf("Put(%q): %d, %t, want %d, %t", l.key, got, is, was, over)
			}
			one.p = now
		}
		for _, one := range all {
			same(t, one.x, one.p)
		}
		for _, k := range iterators {
			if got := gone(k.rows); !slices.Equal(got, k.want.told()) {
				t.Fatalf("kept: %v, want %v", got, k.want.told())
			}
		}
	}
}

// P6.6, P6.5: an iterator of a tree does not see what is put into its clone, nor the clone's what is put into the tree.
func TestIteratorsOfClones(t *testing.T) {
	x := newTexts()
	p := fill(x, lines(numbered(15)))
	before := x.All()
	c := x.Clone()
	theirs := c.Span(3, 12)
	for key := range before {
		c.Put(key, 900, "c")
		c.Put(key+"x", 901, "d")
	}
	for key := range theirs {
		x.Put(key, 800, "e")
		x.Put(key+"y", 801, "f")
	}
	if got := gone(before); !slices.Equal(got, p.told()) {
		t.Errorf("the tree's: %v, want %v", got, p.told())
	}
	if got, want := gone(theirs), p.part(3, 12).told(); !slices.Equal(got, want) {
		t.Errorf("the clone's: %v, want %v", got, want)
	}
	if x.Len() != 15+9 || c.Len() != 15+15 {
		t.Errorf("rows: %d and %d", x.Len(), c.Len())
	}
}

// P6.6: the same zero and join.
func TestCloneJoinsAlike(t *testing.T) {
	x := newCounted()
	for i, key := range numbered(100) {
		x.Put(key, i, turnOf(i))
	}
	c := x.Clone()
	for i := range 101 {
		if x.Fold(i/2, i) != c.Fold(i/2, i) {
			t.Errorf("Fold(%d, %d): %v and the clone's %v", i/2, i, x.Fold(i/2, i), c.Fold(i/2, i))
		}
	}
	empty := newCounted().Clone()
	if got := empty.Fold(0, 9); got != (turn{1, 0}) {
		t.Errorf("Fold of a clone without rows: %v", got)
	}
}
