package tally_test

import (
	"math"
	"math/rand/v2"
	"testing"

	"tideline/api"
	"tideline/tally"
)

// P5.3
func TestLess(t *testing.T) {
	for _, x := range []struct{ a, b, want api.Tally }{
		{tallyOf(5, 1, 6), tallyOf(3, 2, 1), tallyOf(2, most, 5)},
		{tallyOf(5, 1, 6), tallyOf(2, most, 5), tallyOf(3, 2, 1)},
		{tallyOf(5, 1, 6), api.Tally{}, tallyOf(5, 1, 6)},
		{api.Tally{}, api.Tally{}, api.Tally{}},
		{tallyOf(0, 7, most), tallyOf(0, 7, most), api.Tally{}},
		{tallyOf(1, 7, 8), tallyOf(1, 7, 8), api.Tally{}},
		// Counts that are unlike: the Sums are not asked.
		{tallyOf(1, 0, 0), tallyOf(0, 0, 0), tallyOf(1, 0, 0)},
		{tallyOf(1, 0, 0), tallyOf(0, 1, most), tallyOf(1, most, 1)},
		{tallyOf(2, most, most), tallyOf(1, most, most), tallyOf(1, 0, 0)},
		{tallyOf(2, 0, most), tallyOf(1, most, 0), tallyOf(1, 1, most)},
		{tallyOf(math.MaxInt, 3, 4), tallyOf(0, 1, 1), tallyOf(math.MaxInt, 2, 3)},
		{tallyOf(math.MaxInt, 3, 4), tallyOf(1, 1, 1), tallyOf(math.MaxInt-1, 2, 3)},
		{tallyOf(math.MaxInt, 3, 4), tallyOf(math.MaxInt-1, 1, 1), tallyOf(1, 2, 3)},
		{tallyOf(math.MaxInt, 3, 4), tallyOf(math.MaxInt, 3, 4), api.Tally{}},
	} {
		if got, e := tally.Less(x.a, x.b); got != x.want || e != api.OK {
			t.Errorf("Less(%v, %v): %v, %d, want %v", x.a, x.b, got, e, x.want)
		}
	}
}

// P5.3, R2
func TestLessWrong(t *testing.T) {
	for _, x := range []struct {
		name string
		a, b api.Tally
	}{
		{"a's Count below 0", tallyOf(-1, 5, 5), tallyOf(1, 1, 1)},
		{"a's Count below 0, b's not", tallyOf(-1, 5, 5), api.Tally{}},
		{"b's Count below 0", tallyOf(1, 5, 5), tallyOf(-1, 1, 1)},
		{"b's Count below 0, a's not", tallyOf(0, 0, 0), tallyOf(-1, 0, 0)},
		{"both below 0", tallyOf(-1, 5, 5), tallyOf(-2, 1, 1)},
		{"both below 0, and alike", tallyOf(-1, 5, 5), tallyOf(-1, 5, 5)},
		{"a's Count the least", tallyOf(math.MinInt, 0, 0), tallyOf(0, 0, 0)},
		{"b's Count the least", tallyOf(0, 0, 0), tallyOf(math.MinInt, 0, 0)},
		{"both the least", tallyOf(math.MinInt, 0, 0), tallyOf(math.MinInt, 0, 0)},
		{"the least less the greatest", tallyOf(math.MinInt, 0, 0), tallyOf(math.MaxInt, 0, 0)},
		{"the greatest less the least", tallyOf(math.MaxInt, 0, 0), tallyOf(math.MinInt, 0, 0)},
		{"b's Count above a's", tallyOf(1, 5, 5), tallyOf(2, 1, 1)},
		{"b's Count above a's, of one Sum", tallyOf(1, 5, 5), tallyOf(2, 5, 5)},
		{"b's Count above none", api.Tally{}, tallyOf(1, 0, 0)},
		{"b's Count the greatest", tallyOf(math.MaxInt-1, 0, 0), tallyOf(math.MaxInt, 0, 0)},
		{"one Count, another lane 0", tallyOf(1, 0, 0), tallyOf(1, 1, 0)},
		{"one Count, another lane 1", tallyOf(1, 0, 0), tallyOf(1, 0, 1)},
		{"one Count, both lanes otherwise", tallyOf(1, 2, 1), tallyOf(1, 1, 2)},
		{"one Count, greater lanes", tallyOf(2, most, most), tallyOf(2, 1, 1)},
		{"no entries, unlike Sums", tallyOf(0, 1, 0), tallyOf(0, 0, 0)},
		{"no entries, a Sum less none", tallyOf(0, 0, 0), tallyOf(0, 0, most)},
		{"the greatest Count, unlike Sums", tallyOf(math.MaxInt, 0, 0), tallyOf(math.MaxInt, 0, 1)},
	} {
		if got, e := tally.Less(x.a, x.b); got != (api.Tally{}) || e != api.ErrLess {
			t.Errorf("%s: Less(%v, %v): %v, %d, want ErrLess", x.name, x.a, x.b, got, e)
		}
	}
}

// differ goes by the words of P5.3.
func differ(a, b api.Tally) bool {
	if a.Count < 0 || b.Count < 0 {
		return false
	}
	if b.Count > a.Count {
		return false
	}
	return a.Count != b.Count || a.Sum[0] == b.Sum[0] && a.Sum[1] == b.Sum[1]
}

// P5.3
func TestLessByTheWords(t *testing.T) {
	for _, a := range anyTallies() {
		for _, b := range anyTallies() {
			got, e := tally.Less(a, b)
			switch {
			case !differ(a, b):
				if got != (api.Tally{}) || e != api.ErrLess {
					t.Fatalf("Less(%v, %v): %v, %d, want ErrLess", a, b, got, e)
				}
			case e != api.OK:
				t.Fatalf("Less(%v, %v): %v, %d", a, b, got, e)
			case got.Count < 0 || joined(got, b) != a:
				t.Fatalf("Less(%v, %v): %v, which joined with the second is %v", a, b, got, joined(got, b))
			}
		}
	}
}

// P5.3: what Join put together Less takes apart.
func TestLessTakesApart(t *testing.T) {
	rnd := rand.New(rand.NewPCG(5, 3))
	for range 300 {
		l := shuffled(rnd, someEntries(rnd, rnd.IntN(30)))
		all := tally.All(l)
		for at := range len(l) + 1 {
			some, others := tally.All(l[:at]), tally.All(l[at:])
			if got, e := tally.Less(all, some); got != others || e != api.OK {
				t.Fatalf("%d entries less the first %d: %x, %d, want %x", len(l), at, got, e, others)
			}
			if got, e := tally.Less(all, others); got != some || e != api.OK {
				t.Fatalf("%d entries less all but the first %d: %x, %d, want %x", len(l), at, got, e, some)
			}
		}
	}
}
