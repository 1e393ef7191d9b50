package cuts_test

import (
	"math/big"
	"slices"
	"testing"

	"tideline/api"
	"tideline/cuts"
)

// P7.4
func TestLeast(t *testing.T) {
	for _, x := range []struct{ n, branch, splits, want int }{
		{256, 2, 0, 256},
		{256, 2, 1, 128},
		{256, 2, 3, 32},
		{256, 2, 8, 1},
		{255, 2, 7, 2},
		{256, 3, 5, 2},
		{200, 16, 2, 1},
		{256, 16, 1, 16},
		{241, 16, 1, 16},
		{240, 16, 1, 15},
		{7, 3, 1, 3},
		{7, 3, 2, 1},
		{1, 2, 0, 1},
		{1, 16, 63, 1},
		{5, 2, 63, 1},
		{256, 16, 63, 1},
		{0, 2, 0, 0},
		{0, 2, 5, 0},
		{0, 16, 63, 0},
	} {
		if n, e := cuts.Least(x.n, x.branch, x.splits); n != x.want || e != api.OK {
			t.Errorf("Least(%d, %d, %d): %d, %d, want %d", x.n, x.branch, x.splits, n, e, x.want)
		}
	}
}

// P7.4
func TestLeastAtEveryNumber(t *testing.T) {
	for branch := 2; branch <= 16; branch++ {
		power := big.NewInt(1)
		for splits := 0; splits <= 63; splits++ {
			for n := 0; n <= 256; n++ {
				least, e := cuts.Least(n, branch, splits)
				// The least number that is at least the fraction: one less is below it.
				enough := new(big.Int).Mul(big.NewInt(int64(least)), power).Cmp(big.NewInt(int64(n))) >= 0
				less := new(big.Int).Mul(big.NewInt(int64(least-1)), power).Cmp(big.NewInt(int64(n))) < 0
				if e != api.OK || !enough || !less {
					t.Fatalf("Least(%d, %d, %d): %d, %d", n, branch, splits, least, e)
				}
			}
			power.Mul(power, big.NewInt(int64(branch)))
		}
	}
}

// greatestParts are how many things the greatest part has behind 0, 1, .. splits of n things, each into branch parts, or into as many as there are things.
func greatestParts(n, branch, splits int) []int {
	var l []int
	parts := []int{n}
	for range splits + 1 {
		l = append(l, slices.Max(parts))
		var finer []int
		for _, size := range parts {
			starts, e := cuts.Starts(size, min(branch, size))
			if e != api.OK {
				return nil
			}
			for j, end := range append(starts[1:], size) {
				finer = append(finer, end-starts[j])
			}
		}
		slices.Sort(finer)
		parts = slices.Compact(finer)
	}
	return l
}

// P7.4, P7.1
func TestLeastFallsAsPartsAreMade(t *testing.T) {
	for branch := 2; branch <= 16; branch++ {
		for n := 1; n <= 256; n++ {
			made := greatestParts(n, branch, 12)
			if len(made) != 13 {
				t.Fatalf("%d keys could not be split into %d parts", n, branch)
			}
			for splits, want := range made {
				if least, e := cuts.Least(n, branch, splits); least != want || e != api.OK {
					t.Fatalf("Least(%d, %d, %d): %d, %d, want %d", n, branch, splits, least, e, want)
				}
			}
		}
	}
}

// P7.3, P7.4: the same with ranges, split as a session splits them.
func TestLeastOfRanges(t *testing.T) {
	for _, n := range []int{1, 2, 9, 100, 255, 256} {
		for _, branch := range []int{2, 3, 5, 16} {
			ranges := []api.Range{whole()}
			for splits := range 10 {
				least, _ := cuts.Least(n, branch, splits)
				most := 0
				var finer []api.Range
				for _, r := range ranges {
					keys := slices.DeleteFunc(manyKeys(n), func(key string) bool { return !isIn(r, key) })
					most = max(most, len(keys))
					l, e := cuts.Ranges(r, keys, min(branch, len(keys)))
					if e != api.OK {
						t.Fatalf("Ranges(%#v, %q): %d", r, keys, e)
					}
					finer = append(finer, l...)
				}
				if most != least {
					t.Fatalf("%d keys, %d splits into %d: a range has %d, want %d", n, splits, branch, most, least)
				}
				ranges = finer
			}
		}
	}
}

// P7.4, R2
func TestLeastWrong(t *testing.T) {
	refused := func(n, branch, splits int) {
		t.Helper()
		if least, e := cuts.Least(n, branch, splits); e != api.ErrArg || least != 0 {
			t.Errorf("Least(%d, %d, %d): %d, %d, want ErrArg", n, branch, splits, least, e)
		}
	}
	for _, n := range outside(0, 256) {
		refused(n, 2, 0)
		refused(n, 16, 63)
		for _, branch := range outside(2, 16) {
			refused(n, branch, 1)
			for _, splits := range outside(0, 63) {
				refused(n, branch, splits)
			}
		}
	}
	for _, branch := range outside(2, 16) {
		refused(0, branch, 0)
		refused(256, branch, 63)
		for _, splits := range outside(0, 63) {
			refused(9, branch, splits)
		}
	}
	for _, splits := range outside(0, 63) {
		refused(0, 2, splits)
		refused(256, 16, splits)
		for _, n := range outside(0, 256) {
			refused(n, 3, splits)
		}
	}
}

// P7.5
func TestDepthAndTurns(t *testing.T) {
	for branch, want := range map[int]int{2: 8, 3: 6, 4: 4, 5: 4, 6: 4, 7: 3, 8: 3, 9: 3, 10: 3, 11: 3, 12: 3, 13: 3, 14: 3, 15: 3, 16: 2} {
		if k, e := cuts.Depth(branch); k != want || e != api.OK {
			t.Errorf("Depth(%d): %d, %d, want %d", branch, k, e, want)
		}
		if n, e := cuts.Turns(branch); n != 2*want+4 || e != api.OK {
			t.Errorf("Turns(%d): %d, %d, want %d", branch, n, e, 2*want+4)
		}
	}
}

func power(base, k int) int {
	n := 1
	for range k {
		n *= base
	}
	return n
}

// P7.5
func TestDepthIsTheLeast(t *testing.T) {
	for branch := 2; branch <= 16; branch++ {
		if k, e := cuts.Depth(branch); e != api.OK || power(branch, k) < 256 || power(branch, k-1) >= 256 {
			t.Errorf("Depth(%d): %d, %d", branch, k, e)
		}
	}
}

// P7.5, R2
func TestDepthAndTurnsWrong(t *testing.T) {
	for _, branch := range append(outside(2, 16), 0, -2, -16) {
		if k, e := cuts.Depth(branch); e != api.ErrArg || k != 0 {
			t.Errorf("Depth(%d): %d, %d, want ErrArg", branch, k, e)
		}
		if n, e := cuts.Turns(branch); e != api.ErrArg || n != 0 {
			t.Errorf("Turns(%d): %d, %d, want ErrArg", branch, n, e)
		}
	}
}

// P7.5
func TestMoves(t *testing.T) {
	for _, x := range []struct{ d, leaf, want int }{
		{0, 1, 0}, {0, 32, 0}, {1, 1, 2}, {1, 32, 33}, {3, 4, 15}, {512, 1, 1024}, {512, 32, 16896},
	} {
		if n, e := cuts.Moves(x.d, x.leaf); n != x.want || e != api.OK {
			t.Errorf("Moves(%d, %d): %d, %d, want %d", x.d, x.leaf, n, e, x.want)
		}
	}
	for d := 0; d <= 512; d++ {
		for leaf := 1; leaf <= 32; leaf++ {
			if n, e := cuts.Moves(d, leaf); n != d*leaf+d || e != api.OK {
				t.Fatalf("Moves(%d, %d): %d, %d", d, leaf, n, e)
			}
		}
	}
}

// P7.5, R2
func TestMovesWrong(t *testing.T) {
	refused := func(d, leaf int) {
		t.Helper()
		if n, e := cuts.Moves(d, leaf); e != api.ErrArg || n != 0 {
			t.Errorf("Moves(%d, %d): %d, %d, want ErrArg", d, leaf, n, e)
		}
	}
	for _, d := range outside(0, 512) {
		refused(d, 1)
		refused(d, 32)
		for _, leaf := range outside(1, 32) {
			refused(d, leaf)
		}
	}
	for _, leaf := range outside(1, 32) {
		refused(0, leaf)
		refused(512, leaf)
	}
}

// P7.6
func TestOneKeyBehindDepthSplits(t *testing.T) {
	for branch := 2; branch <= 16; branch++ {
		depth, e := cuts.Depth(branch)
		if e != api.OK {
			t.Fatalf("Depth(%d): %d", branch, e)
		}
		for n := 0; n <= 256; n++ {
			if least, e := cuts.Least(n, branch, depth); e != api.OK || least != min(n, 1) {
				t.Errorf("Least(%d, %d, %d): %d, %d, want %d", n, branch, depth, least, e, min(n, 1))
			}
		}
		if least, e := cuts.Least(256, branch, depth-1); e != api.OK || least < 2 {
			t.Errorf("Least(256, %d, %d): %d, %d, want 2 or more", branch, depth-1, least, e)
		}
	}
}
