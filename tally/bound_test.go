package tally_test

import (
	"math"
	"math/big"
	"math/rand/v2"
	"testing"

	"tideline/tally"
)

// leastPower goes by the words of P5.4: it tries one k behind the other, with numbers of any size.
func leastPower(n int) int {
	if n < 0 {
		return 0
	}
	want := new(big.Int).Add(big.NewInt(1), big.NewInt(int64(n)))
	power := big.NewInt(1)
	k := 0
	for power.Cmp(want) < 0 {
		power.Lsh(power, 1)
		k++
	}
	return k
}

func checkLog(t *testing.T, n, want int) {
	t.Helper()
	if got := tally.Log(n); got != want {
		t.Errorf("Log(%d): %d, want %d", n, got, want)
	}
	if got := tally.Bound(n); got != 16*(1+want) {
		t.Errorf("Bound(%d): %d, want %d", n, got, 16*(1+want))
	}
}

// P5.4
func TestLog(t *testing.T) {
	for _, x := range []struct{ n, want int }{
		{0, 0}, {1, 1}, {2, 2}, {3, 2}, {4, 3}, {5, 3}, {7, 3}, {8, 4}, {254, 8}, {255, 8}, {256, 9}, {257, 9},
		{1<<31 - 1, 31}, {1 << 31, 32}, {1<<32 - 1, 32}, {1 << 32, 33}, {1<<53 - 1, 53}, {1 << 53, 54}, {1<<53 + 1, 54},
		{1<<62 - 1, 62}, {1 << 62, 63}, {math.MaxInt - 1, 63}, {math.MaxInt, 63},
		{-1, 0}, {-2, 0}, {-4, 0}, {-256, 0}, {-1 << 32, 0}, {math.MinInt + 1, 0}, {math.MinInt, 0},
	} {
		checkLog(t, x.n, x.want)
	}
}

// P5.4
func TestBound(t *testing.T) {
	for _, x := range []struct{ n, want int }{
		{0, 16}, {1, 32}, {2, 48}, {3, 48}, {4, 64}, {255, 144}, {256, 160}, {math.MaxInt, 1024}, {-1, 16}, {math.MinInt, 16},
	} {
		if got := tally.Bound(x.n); got != x.want {
			t.Errorf("Bound(%d): %d, want %d", x.n, got, x.want)
		}
	}
}

// P5.4: each power of 2 and its neighbours.
func TestLogAtPowers(t *testing.T) {
	for k := range 63 {
		checkLog(t, 1<<k-1, k)
		checkLog(t, 1<<k, k+1)
		for near := -3; near <= 3; near++ {
			checkLog(t, 1<<k+near, leastPower(1<<k+near))
			checkLog(t, -1<<k+near, leastPower(-1<<k+near))
		}
	}
}

// P5.4
func TestLogByTheWords(t *testing.T) {
	for n := -300; n <= 5000; n++ {
		checkLog(t, n, leastPower(n))
	}
	rnd := rand.New(rand.NewPCG(5, 4))
	for range 5000 {
		n := int(rnd.Uint64()) >> rnd.IntN(64)
		checkLog(t, n, leastPower(n))
	}
}
