package tree_test

import (
	"math"
	"math/rand/v2"
	"testing"
)

// P6.4: every row of rows, of trees of each size up to 40, in each order.
func TestFold(t *testing.T) {
	for _, o := range orders() {
		for n := range 41 {
			x := newTexts()
			p := fill(x, inOrder(lines(numbered(n)), o.numbers(n)))
			for i := -1; i <= n+1; i++ {
				for j := -1; j <= n+1; j++ {
					if got, want := x.Fold(i, j), p.part(i, j).sum(); got != want {
						t.Fatalf("%s: Fold(%d, %d) of %d: %q, want %q", o.name, i, j, n, got, want)
					}
				}
			}
		}
	}
}

// P6.4: numbers that no row has.
func TestFoldEdges(t *testing.T) {
	x := newTexts()
	for _, key := range []string{"c", "a", "d", "b"} {
		x.Put(key, 1, key)
	}
	for _, f := range []struct {
		i, j int
		want string
	}{
		{0, 4, "abcd"}, {-1, 4, "abcd"}, {0, 5, "abcd"}, {math.MinInt, math.MaxInt, "abcd"}, {math.MinInt, 4, "abcd"}, {0, math.MaxInt, "abcd"},
		{math.MinInt, 1, "a"}, {-7, 2, "ab"}, {3, math.MaxInt, "d"}, {1, 3, "bc"}, {2, 99, "cd"},
		{0, 0, ""}, {2, 2, ""}, {4, 4, ""}, {4, 5, ""}, {4, math.MaxInt, ""}, {5, 9, ""}, {3, 1, ""}, {4, 0, ""}, {-1, 0, ""}, {-5, -1, ""}, {-1, -5, ""},
		{math.MinInt, math.MinInt, ""}, {math.MaxInt, math.MaxInt, ""}, {math.MaxInt, math.MinInt, ""}, {math.MinInt, 0, ""}, {math.MinInt, -1, ""},
		{math.MaxInt - 1, math.MaxInt, ""}, {math.MinInt, math.MinInt + 1, ""},
	} {
		if got := x.Fold(f.i, f.j); got != f.want {
			t.Errorf("Fold(%d, %d): %q, want %q", f.i, f.j, got, f.want)
		}
	}
}

// P6.4: of one row its summary, of none zero, in trees of each size.
func TestFoldOneAndNone(t *testing.T) {
	for n := range 70 {
		x := newTexts()
		p := fill(x, lines(numbered(n)))
		for i, l := range p {
			if got := x.Fold(i, i+1); got != l.sum {
				t.Fatalf("Fold of row %d of %d: %q, want %q", i, n, got, l.sum)
			}
			if got := x.Fold(i, i); got != "" {
				t.Fatalf("Fold(%d, %d) of %d: %q, want none", i, i, n, got)
			}
		}
	}
}

// P6.4, P6.2: a summary that is put anew is seen in each Fold over its row, and in no other.
func TestFoldOfRowsPutAgain(t *testing.T) {
	const n = 33
	for at := range n {
		x := newTexts()
		p := fill(x, lines(numbered(n)))
		l := p[at]
		l.sum = "!"
		x.Put(l.key, l.value, l.sum)
		p, _, _ = p.put(l)
		for i := range n + 1 {
			for j := range n + 1 {
				if got, want := x.Fold(i, j), p.part(i, j).sum(); got != want {
					t.Fatalf("row %d anew: Fold(%d, %d): %q, want %q", at, i, j, got, want)
				}
			}
		}
	}
}

// P6.8
func TestFoldsOfParts(t *testing.T) {
	rnd := rand.New(rand.NewPCG(6, 8))
	for _, o := range orders() {
		const n = 3000
		x := newFilled(o, n)
		for range 3000 {
			i := rnd.IntN(n+5) - 2
			j := i + rnd.IntN(n+5-i)
			k := j + rnd.IntN(n+5-j)
			first, then, whole := x.Fold(i, j), x.Fold(j, k), x.Fold(i, k)
			if joinTurns(first, then) != whole {
				t.Fatalf("%s: Fold(%d, %d) and Fold(%d, %d) joined are not Fold(%d, %d)", o.name, i, j, j, k, i, k)
			}
			want := turn{1, 0}
			for at := max(i, 0); at < min(k, n); at++ {
				want = joinTurns(want, turnOf(at))
			}
			if whole != want {
				t.Fatalf("%s: Fold(%d, %d): %v, want %v", o.name, i, k, whole, want)
			}
		}
	}
}

// P6.8: with texts, at all places of a small tree.
func TestFoldsOfPartsEverywhere(t *testing.T) {
	x := newTexts()
	p := fill(x, inOrder(lines(numbered(21)), mixed(1)(21)))
	for i := -2; i <= len(p)+2; i++ {
		for j := i; j <= len(p)+2; j++ {
			for k := j; k <= len(p)+2; k++ {
				if got, want := x.Fold(i, j)+x.Fold(j, k), x.Fold(i, k); got != want {
					t.Fatalf("%d, %d, %d: %q, want %q", i, j, k, got, want)
				}
			}
		}
	}
	for i := range p {
		if key, _, _ := x.At(i); x.Rank(key) != i {
			t.Errorf("Rank of At(%d)'s key: %d", i, x.Rank(key))
		}
	}
}

// P6.9
func TestInWhateverOrder(t *testing.T) {
	for _, keys := range [][]string{oddKeys(), numbered(1), numbered(2), numbered(37)} {
		l := lines(keys)
		want := fill(newTexts(), l)
		for _, o := range orders() {
			x := newTexts()
			// What stood there first does not matter.
			for i, key := range inOrder(keys, o.numbers(len(keys)))[:len(keys)/2] {
				x.Put(key, -i, "gone")
			}
			fill(x, inOrder(l, o.numbers(len(l))))
			same(t, x, want)
		}
	}
}
