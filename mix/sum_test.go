package mix_test

import (
	"math/big"
	"math/rand/v2"
	"slices"
	"testing"

	"tideline/api"
	"tideline/mix"
)

// P4.2
func TestAddLess(t *testing.T) {
	for _, x := range []struct{ a, b, sum, less api.Sum }{
		{api.Sum{0, 0}, api.Sum{0, 0}, api.Sum{0, 0}, api.Sum{0, 0}},
		{api.Sum{0, 0}, api.Sum{1, 2}, api.Sum{1, 2}, api.Sum{most, most - 1}},
		{api.Sum{1, 2}, api.Sum{0, 0}, api.Sum{1, 2}, api.Sum{1, 2}},
		{api.Sum{5, 7}, api.Sum{3, 2}, api.Sum{8, 9}, api.Sum{2, 5}},
		// No lane carries into the other one, nor borrows from it.
		{api.Sum{most, 0}, api.Sum{1, 0}, api.Sum{0, 0}, api.Sum{most - 1, 0}},
		{api.Sum{0, most}, api.Sum{0, 1}, api.Sum{0, 0}, api.Sum{0, most - 1}},
		{api.Sum{0, 0}, api.Sum{0, 1}, api.Sum{0, 1}, api.Sum{0, most}},
		{api.Sum{0, 0}, api.Sum{1, 0}, api.Sum{1, 0}, api.Sum{most, 0}},
		{api.Sum{most, most}, api.Sum{most, most}, api.Sum{most - 1, most - 1}, api.Sum{0, 0}},
		{api.Sum{1 << 63, 1 << 63}, api.Sum{1 << 63, 1}, api.Sum{0, 1<<63 + 1}, api.Sum{0, 1<<63 - 1}},
		{api.Sum{1<<32 - 1, 1}, api.Sum{1, 1 << 32}, api.Sum{1 << 32, 1<<32 + 1}, api.Sum{1<<32 - 2, 1<<64 - 1<<32 + 1}},
	} {
		if s := mix.Add(x.a, x.b); s != x.sum {
			t.Errorf("Add(%x, %x): %x, want %x", x.a, x.b, s, x.sum)
		}
		if s := mix.Less(x.a, x.b); s != x.less {
			t.Errorf("Less(%x, %x): %x, want %x", x.a, x.b, s, x.less)
		}
	}
}

// P4.2
func TestAddLessByTheWords(t *testing.T) {
	for _, a := range anySums() {
		for _, b := range anySums() {
			var sum, less api.Sum
			for i := range 2 {
				sum[i] = modulo(new(big.Int).Add(wide(a[i]), wide(b[i])))
				less[i] = modulo(new(big.Int).Sub(wide(a[i]), wide(b[i])))
			}
			if s := mix.Add(a, b); s != sum {
				t.Fatalf("Add(%x, %x): %x, want %x", a, b, s, sum)
			}
			if s := mix.Less(a, b); s != less {
				t.Fatalf("Less(%x, %x): %x, want %x", a, b, s, less)
			}
		}
	}
}

// P4.3
func TestAll(t *testing.T) {
	a, b := entry("a", 1, 0), entry("abcdefghi", 5, 2)
	// The lanes of both are those of the chapter's examples.
	one := api.Sum{0x935aaef53b422411, 0x13804f825c758b96}
	both := api.Sum{0x588f705294fedbb8, 0xc9047ee07b962973}
	twice := api.Sum{0x26b55dea76844822, 0x27009f04b8eb172c}
	for _, x := range []struct {
		name string
		l    []api.Entry
		want api.Sum
	}{
		{"none", nil, api.Sum{}},
		{"an empty list", []api.Entry{}, api.Sum{}},
		{"one", []api.Entry{a}, one},
		{"two", []api.Entry{a, b}, both},
		{"the other way round", []api.Entry{b, a}, both},
		{"the same twice", []api.Entry{a, a}, twice},
		{"the zero entry", []api.Entry{{}}, api.Sum{0x4cb0a81f32fe83a9, 0x6e307e13264d225e}},
	} {
		if s := mix.All(x.l...); s != x.want {
			t.Errorf("All of %s: %x, want %x", x.name, s, x.want)
		}
	}
	if s := mix.All(); s != (api.Sum{}) {
		t.Errorf("All(): %x", s)
	}
	if s := mix.All(a, b); s != both {
		t.Errorf("All of two, one by one: %x, want %x", s, both)
	}
}

// P4.3: entries that may not be count as well.
func TestAllByTheWords(t *testing.T) {
	l := anyEntries()
	for n := range len(l) + 1 {
		lanes := [2]*big.Int{new(big.Int), new(big.Int)}
		for _, e := range l[:n] {
			s := sumOf(e.Key, e.Version)
			for i := range lanes {
				lanes[i].Add(lanes[i], wide(s[i]))
			}
		}
		want := api.Sum{modulo(lanes[0]), modulo(lanes[1])}
		if s := mix.All(l[:n]...); s != want {
			t.Fatalf("All of the first %d: %x, want %x", n, s, want)
		}
	}
}

// P4.3
func TestAllValueAndDead(t *testing.T) {
	for _, e := range anyEntries() {
		want := mix.Of(e.Key, e.Version)
		for _, value := range []string{"", "v", "\x00", string(make([]byte, 33))} {
			for _, dead := range []bool{false, true} {
				e.Value, e.Dead = value, dead
				if s := mix.All(e); s != want {
					t.Errorf("All(%#v): %x, want %x", e, s, want)
				}
			}
		}
	}
}

// R3
func TestAllLeavesEntries(t *testing.T) {
	l := anyEntries()
	mix.All(l[:7]...)
	if !slices.Equal(l, anyEntries()) {
		t.Error("All changed what was handed in")
	}
}

// P4.5
func TestGroup(t *testing.T) {
	zero := api.Sum{}
	sums := append(anySums(), mix.Of("a", version(1, 0)), mix.All(anyEntries()...))
	for _, a := range sums {
		if mix.Add(a, zero) != a || mix.Add(zero, a) != a || mix.Less(a, zero) != a {
			t.Errorf("{0, 0} changes %x", a)
		}
		if s := mix.Less(a, a); s != zero {
			t.Errorf("%x less itself: %x", a, s)
		}
		for _, b := range sums {
			if mix.Add(a, b) != mix.Add(b, a) {
				t.Fatalf("Add(%x, %x) hangs on their order", a, b)
			}
			if s := mix.Less(mix.Add(a, b), b); s != a {
				t.Fatalf("%x plus and less %x: %x", a, b, s)
			}
			if s := mix.Add(mix.Less(a, b), b); s != a {
				t.Fatalf("%x less and plus %x: %x", a, b, s)
			}
		}
	}
}

// P4.5
func TestAssociative(t *testing.T) {
	rnd := rand.New(rand.NewPCG(4, 5))
	sums := anySums()
	for range 20000 {
		a, b, c := someSum(rnd), sums[rnd.IntN(len(sums))], sums[rnd.IntN(len(sums))]
		if mix.Add(mix.Add(a, b), c) != mix.Add(a, mix.Add(b, c)) {
			t.Fatalf("Add of %x, %x, %x hangs on which two come first", a, b, c)
		}
	}
}

// P4.6
func TestAnyOrder(t *testing.T) {
	rnd := rand.New(rand.NewPCG(4, 6))
	for count := range 40 {
		l := someEntries(rnd, count)
		want := mix.All(l...)
		for range 20 {
			rnd.Shuffle(len(l), func(i, j int) { l[i], l[j] = l[j], l[i] })
			if s := mix.All(l...); s != want {
				t.Fatalf("All of %d in another order: %x, want %x", count, s, want)
			}
		}
		slices.Reverse(l)
		if s := mix.All(l...); s != want {
			t.Fatalf("All of %d the other way round: %x, want %x", count, s, want)
		}
	}
}

// P4.6
func TestListsBehindOneAnother(t *testing.T) {
	rnd := rand.New(rand.NewPCG(4, 66))
	for count := range 40 {
		l := someEntries(rnd, count)
		for at := range len(l) + 1 {
			if mix.Add(mix.All(l[:at]...), mix.All(l[at:]...)) != mix.All(l...) {
				t.Fatalf("All of %d is not that of the first %d and of the others", count, at)
			}
		}
	}
}

// P4.6
func TestComesAndGoes(t *testing.T) {
	rnd := rand.New(rand.NewPCG(4, 666))
	for range 500 {
		l := someEntries(rnd, rnd.IntN(30))
		before := mix.All(l...)
		e := someEntry(rnd)
		with := mix.All(slices.Insert(slices.Clone(l), rnd.IntN(len(l)+1), e)...)
		if s := mix.Less(with, mix.Of(e.Key, e.Version)); s != before {
			t.Fatalf("%#v came and went: %x, want %x", e, s, before)
		}
		if s := mix.Less(with, mix.All(e)); s != before {
			t.Fatalf("All(%#v) came and went: %x, want %x", e, s, before)
		}
	}
}

// P4.6: a row of entries that come and go, those that stay among them.
func TestNoTrace(t *testing.T) {
	rnd := rand.New(rand.NewPCG(4, 6666))
	var held []api.Entry
	var s api.Sum
	for range 5000 {
		if len(held) > 0 && rnd.IntN(2) == 0 {
			at := rnd.IntN(len(held))
			s = mix.Less(s, mix.Of(held[at].Key, held[at].Version))
			held = slices.Delete(held, at, at+1)
		} else {
			e := someEntry(rnd)
			s = mix.Add(s, mix.Of(e.Key, e.Version))
			held = append(held, e)
		}
		if want := mix.All(held...); s != want {
			t.Fatalf("%d entries are held: %x, want %x", len(held), s, want)
		}
	}
}
