package tally_test

import (
	"math"
	"math/rand/v2"
	"slices"
	"strings"
	"testing"

	"tideline/api"
	"tideline/mix"
	"tideline/tally"
)

// P5.1: the sums are those of chapter 4's examples.
func TestOf(t *testing.T) {
	for _, x := range []struct {
		e    api.Entry
		want api.Tally
	}{
		{api.Entry{}, tallyOf(1, 0x4cb0a81f32fe83a9, 0x6e307e13264d225e)},
		{entry("a", 1, 0), tallyOf(1, 0x935aaef53b422411, 0x13804f825c758b96)},
		{entry("a", 1, 1), tallyOf(1, 0x319228aaac708ae8, 0xd632fdbfa1f852dc)},
		{entry("abcdefghi", 5, 2), tallyOf(1, 0xc534c15d59bcb7a7, 0xb5842f5e1f209ddd)},
		{entry(strings.Repeat("\xff", 16), -1, -1), tallyOf(1, 0x5152406d81d5405e, 0xafae35653923b506)},
	} {
		if got := tally.Of(x.e); got != x.want {
			t.Errorf("Of(%#v): %x, want %x", x.e, got, x.want)
		}
	}
}

// P5.1: whatever the entry is.
func TestOfAny(t *testing.T) {
	for _, e := range anyEntries() {
		want := api.Tally{Count: 1, Sum: mix.Of(e.Key, e.Version)}
		if got := tally.Of(e); got != want {
			t.Errorf("Of(%#v): %x, want %x", e, got, want)
		}
	}
}

// P5.1: Value and Dead are not asked, by Of and by All.
func TestValueAndDead(t *testing.T) {
	for _, e := range anyEntries() {
		want := api.Tally{Count: 1, Sum: mix.Of(e.Key, e.Version)}
		for _, value := range []string{"", "v", "\x00", strings.Repeat("v", 32), strings.Repeat("v", 33)} {
			for _, dead := range []bool{false, true} {
				e.Value, e.Dead = value, dead
				if got := tally.Of(e); got != want {
					t.Errorf("Of(%#v): %x, want %x", e, got, want)
				}
				if got := tally.All([]api.Entry{e}); got != want {
					t.Errorf("All of %#v: %x, want %x", e, got, want)
				}
			}
		}
	}
}

// P5.1
func TestJoin(t *testing.T) {
	for _, x := range []struct{ a, b, want api.Tally }{
		{api.Tally{}, api.Tally{}, api.Tally{}},
		{tallyOf(2, most, 5), tallyOf(3, 2, 1), tallyOf(5, 1, 6)},
		{tallyOf(0, 7, 8), tallyOf(0, 1, 1), tallyOf(0, 8, 9)},
		{tallyOf(5, 0, 0), tallyOf(-1, 0, 0), tallyOf(4, 0, 0)},
		{tallyOf(-1, 0, 0), tallyOf(-1, 0, 0), tallyOf(-2, 0, 0)},
		{tallyOf(1, 0, 0), tallyOf(-1, 0, 0), tallyOf(0, 0, 0)},
		// Counts wrap round.
		{tallyOf(math.MaxInt, 0, 0), tallyOf(1, 0, 0), tallyOf(math.MinInt, 0, 0)},
		{tallyOf(math.MinInt, 0, 0), tallyOf(-1, 0, 0), tallyOf(math.MaxInt, 0, 0)},
		{tallyOf(math.MaxInt, 0, 0), tallyOf(math.MaxInt, 0, 0), tallyOf(-2, 0, 0)},
		{tallyOf(math.MinInt, 0, 0), tallyOf(math.MinInt, 0, 0), tallyOf(0, 0, 0)},
		{tallyOf(math.MinInt, 0, 0), tallyOf(math.MaxInt, 0, 0), tallyOf(-1, 0, 0)},
		// Nothing is carried from lane to lane, nor to the Count.
		{tallyOf(1, most, 0), tallyOf(1, 1, 0), tallyOf(2, 0, 0)},
		{tallyOf(1, 0, most), tallyOf(1, 0, 1), tallyOf(2, 0, 0)},
		{tallyOf(1, most, most), tallyOf(1, most, most), tallyOf(2, most-1, most-1)},
		{tallyOf(1, 1<<63, 1<<63), tallyOf(1, 1<<63, 1), tallyOf(2, 0, 1<<63+1)},
	} {
		if got := tally.Join(x.a, x.b); got != x.want {
			t.Errorf("Join(%v, %v): %v, want %v", x.a, x.b, got, x.want)
		}
	}
}

// P5.1
func TestJoinByTheWords(t *testing.T) {
	for _, a := range anyTallies() {
		for _, b := range anyTallies() {
			if got, want := tally.Join(a, b), joined(a, b); got != want {
				t.Fatalf("Join(%v, %v): %v, want %v", a, b, got, want)
			}
		}
	}
}

// P5.1
func TestAll(t *testing.T) {
	a, b := entry("a", 1, 0), entry("abcdefghi", 5, 2)
	deadA := a
	deadA.Dead = true
	both := tallyOf(2, 0x588f705294fedbb8, 0xc9047ee07b962973)
	twice := tallyOf(2, 0x26b55dea76844822, 0x27009f04b8eb172c)
	for _, x := range []struct {
		name string
		l    []api.Entry
		want api.Tally
	}{
		{"nil", nil, api.Tally{}},
		{"none", []api.Entry{}, api.Tally{}},
		{"one", []api.Entry{a}, tallyOf(1, 0x935aaef53b422411, 0x13804f825c758b96)},
		{"two", []api.Entry{a, b}, both},
		{"two, the other way round", []api.Entry{b, a}, both},
		{"the same twice", []api.Entry{a, a}, twice},
		{"the same, once dead", []api.Entry{a, deadA}, twice},
		{"the zero entry", []api.Entry{{}}, tallyOf(1, 0x4cb0a81f32fe83a9, 0x6e307e13264d225e)},
	} {
		if got := tally.All(x.l); got != x.want {
			t.Errorf("All of %s: %x, want %x", x.name, got, x.want)
		}
	}
}

// P5.1: entries that may not be count as well.
func TestAllByTheWords(t *testing.T) {
	l := anyEntries()
	for n := range len(l) + 1 {
		if got, want := tally.All(l[:n]), counted(l[:n]); got != want {
			t.Fatalf("All of the first %d: %x, want %x", n, got, want)
		}
	}
}

// R3: what lies behind the list's length is neither changed nor counted.
func TestAllLeavesEntries(t *testing.T) {
	l := anyEntries()
	if got, want := tally.All(l[:7]), counted(l[:7]); got != want {
		t.Errorf("All of the first 7: %x, want %x", got, want)
	}
	if !slices.Equal(l, anyEntries()) {
		t.Error("All changed what was handed in")
	}
}

// P5.2
func TestJoinInAnyOrder(t *testing.T) {
	rnd := rand.New(rand.NewPCG(5, 2))
	l := append(anyTallies(), tally.All(anyEntries()), tally.Of(entry("a", 1, 0)), someTally(rnd))
	for _, a := range l {
		if tally.Join(api.Tally{}, a) != a || tally.Join(a, api.Tally{}) != a {
			t.Errorf("the zero Tally changes %v", a)
		}
		for _, b := range l {
			if tally.Join(a, b) != tally.Join(b, a) {
				t.Fatalf("Join(%v, %v) hangs on their order", a, b)
			}
			c := l[rnd.IntN(len(l))]
			if tally.Join(a, tally.Join(b, c)) != tally.Join(tally.Join(a, b), c) {
				t.Fatalf("of %v, %v and %v it matters which two are joined first", a, b, c)
			}
		}
	}
}

// P5.2: many tallies come to one, whichever neighbours are joined first.
func TestJoinManyInAnyOrder(t *testing.T) {
	rnd := rand.New(rand.NewPCG(5, 22))
	for range 300 {
		var l []api.Tally
		for range 1 + rnd.IntN(30) {
			l = append(l, someTally(rnd))
		}
		want := joined(l...)
		for len(l) > 1 {
			at := rnd.IntN(len(l) - 1)
			l[at] = tally.Join(l[at], l[at+1])
			l = slices.Delete(l, at+1, at+2)
		}
		if l[0] != want {
			t.Fatalf("joined: %v, want %v", l[0], want)
		}
	}
}

// P5.2
func TestAllInAnyOrder(t *testing.T) {
	rnd := rand.New(rand.NewPCG(5, 222))
	for range 300 {
		l := someEntries(rnd, rnd.IntN(30))
		want := counted(l)
		if got := tally.All(shuffled(rnd, l)); got != want {
			t.Fatalf("All of %d entries in another order: %x, want %x", len(l), got, want)
		}
		for at := range len(l) + 1 {
			if got := tally.Join(tally.All(l[:at]), tally.All(l[at:])); got != want {
				t.Fatalf("the first %d of %d joined with the others: %x, want %x", at, len(l), got, want)
			}
		}
	}
}
