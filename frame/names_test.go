package frame_test

import (
	"math"
	"math/rand/v2"
	"slices"
	"testing"

	"tideline/api"
	"tideline/frame"
)

// P11.1
func TestCheckName(t *testing.T) {
	for _, x := range []struct {
		n    api.Name
		want api.Errno
	}{
		{s(), api.OK},
		{name(0, 1, 1), api.OK},
		{name(7, 1, 1), api.OK},
		{name(3, mostLives, 1), api.OK},
		{name(3, 1, mostLives), api.OK},
		{name(7, mostLives, mostLives), api.OK},
		{name(4, 300, 70000), api.OK},

		{name(-1, 1, 1), api.ErrEnds},
		{name(8, 1, 1), api.ErrEnds},
		{name(math.MinInt, 1, 1), api.ErrEnds},
		{name(math.MaxInt, 1, 1), api.ErrEnds},

		{api.Name{}, api.ErrName},
		{name(1, 0, 1), api.ErrName},
		{name(1, 1, 0), api.ErrName},
		{name(1, -1, 1), api.ErrName},
		{name(1, 1, -1), api.ErrName},
		{name(1, mostLives+1, 1), api.ErrName},
		{name(1, 1, mostLives+1), api.ErrName},
		{name(1, math.MinInt, 1), api.ErrName},
		{name(1, 1, math.MinInt), api.ErrName},
		{name(1, math.MaxInt, 1), api.ErrName},
		{name(1, 1, math.MaxInt), api.ErrName},

		// Two at once: that of the Opener is told.
		{name(-1, 0, 1), api.ErrEnds},
		{name(8, 1, 0), api.ErrEnds},
		{name(8, mostLives+1, mostLives+1), api.ErrEnds},
	} {
		if e := frame.CheckName(x.n); e != x.want {
			t.Errorf("CheckName(%+v): %d, want %d", x.n, e, x.want)
		}
	}
}

// P11.1
func TestCheckNameOfAnyNumbers(t *testing.T) {
	for n := range allNames() {
		if e, want := frame.CheckName(n), plainName(n); e != want {
			t.Errorf("CheckName(%+v): %d, want %d", n, e, want)
		}
	}
}

func allNames() func(yield func(api.Name) bool) {
	return func(yield func(api.Name) bool) {
		for _, opener := range anyNumbers() {
			for _, life := range anyNumbers() {
				for _, number := range anyNumbers() {
					if !yield(name(opener, life, number)) {
						return
					}
				}
			}
		}
	}
}

// P11.1
func TestCompareNames(t *testing.T) {
	for _, x := range []struct {
		a, b api.Name
		want int
	}{
		{name(1, 1, 2), name(1, 1, 1), 1},
		{name(0, 9, 9), name(1, 1, 1), -1},
		{name(1, 2, 1), name(1, 1, 9), 1},
		{name(1, 1, 1), name(1, 1, 1), 0},
		{api.Name{}, api.Name{}, 0},
		{name(7, 1, 1), name(0, mostLives, mostLives), 1},
		{name(2, 3, 300), name(2, 3, 301), -1},
		{name(2, 3, 300), name(2, 4, 1), -1},
		// Numbers whose difference is none.
		{name(math.MinInt, 0, 0), name(math.MaxInt, 0, 0), -1},
		{name(math.MaxInt, 0, 0), name(math.MinInt, 0, 0), 1},
		{name(0, math.MinInt, 0), name(0, math.MaxInt, 0), -1},
		{name(0, math.MaxInt, 0), name(0, -1, 0), 1},
		{name(0, 0, math.MinInt), name(0, 0, 1), -1},
		{name(0, 0, math.MaxInt), name(0, 0, math.MinInt), 1},
		{name(math.MinInt, math.MinInt, math.MinInt), name(math.MinInt, math.MinInt, math.MinInt), 0},
	} {
		if got := frame.CompareNames(x.a, x.b); got != x.want {
			t.Errorf("CompareNames(%+v, %+v): %d, want %d", x.a, x.b, got, x.want)
		}
	}
}

// P11.1: names that are laid down in their order stand in it, each with each.
func TestCompareNamesOfAnyNumbers(t *testing.T) {
	var l []api.Name
	edges := []int{math.MinInt, math.MinInt + 1, -1, 0, 1, 7, mostLives, math.MaxInt - 1, math.MaxInt}
	for _, opener := range edges {
		for _, life := range edges {
			for _, number := range edges {
				l = append(l, name(opener, life, number))
			}
		}
	}
	for i, a := range l {
		for j, b := range l {
			want := 0
			if i < j {
				want = -1
			} else if i > j {
				want = 1
			}
			if got := frame.CompareNames(a, b); got != want {
				t.Fatalf("CompareNames(%+v, %+v): %d, want %d", a, b, got, want)
			}
		}
	}
	mixed := slices.Clone(l)
	rnd := rand.New(rand.NewPCG(11, 1))
	rnd.Shuffle(len(mixed), func(i, j int) { mixed[i], mixed[j] = mixed[j], mixed[i] })
	slices.SortFunc(mixed, frame.CompareNames)
	if !slices.Equal(mixed, l) {
		t.Error("names sorted by CompareNames do not stand in their order")
	}
}
