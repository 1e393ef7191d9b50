package cuts_test

import (
	"slices"
	"testing"

	"tideline/api"
	"tideline/cuts"
)

// P7.1
func TestStarts(t *testing.T) {
	for _, x := range []struct {
		n, parts int
		want     []int
	}{
		{1, 1, []int{0}},
		{2, 1, []int{0}},
		{2, 2, []int{0, 1}},
		{3, 2, []int{0, 1}},
		{5, 3, []int{0, 1, 3}},
		{5, 5, []int{0, 1, 2, 3, 4}},
		{7, 3, []int{0, 2, 4}},
		{7, 4, []int{0, 1, 3, 5}},
		{8, 3, []int{0, 2, 5}},
		{256, 1, []int{0}},
		{256, 2, []int{0, 128}},
		{256, 3, []int{0, 85, 170}},
		{255, 16, []int{0, 15, 31, 47, 63, 79, 95, 111, 127, 143, 159, 175, 191, 207, 223, 239}},
	} {
		if l, e := cuts.Starts(x.n, x.parts); e != api.OK || !slices.Equal(l, x.want) {
			t.Errorf("Starts(%d, %d): %d, %d, want %d", x.n, x.parts, l, e, x.want)
		}
	}
}

// P7.1
func TestStartsAtEveryNumber(t *testing.T) {
	for n := 1; n <= 256; n++ {
		for parts := 1; parts <= n; parts++ {
			l, e := cuts.Starts(n, parts)
			if e != api.OK || len(l) != parts {
				t.Fatalf("Starts(%d, %d): %d, %d", n, parts, l, e)
			}
			for j, start := range l {
				// The whole part of a fraction is the number that is not above it, while the next one is.
				if start*parts > j*n || (start+1)*parts <= j*n {
					t.Fatalf("Starts(%d, %d): part %d begins at %d", n, parts, j, start)
				}
			}
			nearlyAlike(t, n, l)
		}
	}
}

// nearlyAlike asks that no part is empty, and no two differ by more than one.
func nearlyAlike(t *testing.T, n int, starts []int) {
	t.Helper()
	var sizes []int
	for j, end := range append(slices.Clone(starts[1:]), n) {
		sizes = append(sizes, end-starts[j])
	}
	if starts[0] != 0 || slices.Min(sizes) < 1 || slices.Max(sizes)-slices.Min(sizes) > 1 {
		t.Fatalf("%d things begin at %d, with so many in each part: %d", n, starts, sizes)
	}
}

// P7.1, R2
func TestStartsWrong(t *testing.T) {
	refused := func(n, parts int) {
		t.Helper()
		if l, e := cuts.Starts(n, parts); e != api.ErrArg || len(l) != 0 {
			t.Errorf("Starts(%d, %d): %d, %d, want ErrArg", n, parts, l, e)
		}
	}
	for _, n := range outside(1, 256) {
		for _, parts := range []int{1, 2, 256, n, 0, -1} {
			refused(n, parts)
		}
		for _, parts := range outside(1, 256) {
			refused(n, parts)
		}
	}
	for n := 1; n <= 256; n++ {
		for _, parts := range outside(1, n) {
			refused(n, parts)
		}
	}
}

// R3
func TestStartsAreNew(t *testing.T) {
	first, _ := cuts.Starts(7, 3)
	second, _ := cuts.Starts(7, 3)
	spoil(first, 99)
	if !slices.Equal(second, []int{0, 2, 4}) {
		t.Errorf("the starts are %d now", second)
	}
	if third, _ := cuts.Starts(7, 3); !slices.Equal(third, []int{0, 2, 4}) {
		t.Errorf("the starts of a later call are %d", third)
	}
}

// spoil writes over all that a list has, its spare room too.
func spoil[T any](l []T, by T) {
	l = l[:cap(l)]
	for i := range l {
		l[i] = by
	}
}
