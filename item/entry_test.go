package item_test

import (
	"math"
	"math/rand/v2"
	"testing"

	"tideline/api"
	"tideline/item"
)

// P3.2
func TestCheck(t *testing.T) {
	deadWith := func(key, value string) api.Entry {
		e := dead(key, 1, 0)
		e.Value = value
		return e
	}
	for _, x := range []struct {
		e    api.Entry
		want api.Errno
	}{
		{entry("a", 300, 1, "bc"), api.OK},
		{entry("", 1, 0, ""), api.OK},
		{entry("\x00\xff", 1, 0, "\xff\x00"), api.OK},
		{entry(longKey, greatest, 7, longValue), api.OK},
		{dead("", 1, 0), api.OK},
		{dead(longKey, greatest, 7), api.OK},

		{entry(tooLongKey, 1, 0, ""), api.ErrKey},
		{dead(tooLongKey+tooLongKey, 1, 0), api.ErrKey},

		{api.Entry{}, api.ErrVersion},
		{api.Entry{Key: "a", Dead: true}, api.ErrVersion},
		{entry("a", 0, 0, "v"), api.ErrVersion},
		{entry("a", -1, 0, "v"), api.ErrVersion},
		{entry("a", greatest+1, 0, "v"), api.ErrVersion},
		{entry("a", math.MaxInt, 0, "v"), api.ErrVersion},
		{entry("a", 1, -1, "v"), api.ErrVersion},
		{entry("a", 1, 8, "v"), api.ErrVersion},

		{entry("a", 1, 0, tooLongValue), api.ErrValue},
		{entry("a", 1, 0, tooLongValue+longValue), api.ErrValue},

		{deadWith("a", "v"), api.ErrDead},
		{deadWith("", "\x00"), api.ErrDead},
		{deadWith("a", longValue), api.ErrDead},

		// Several are wrong: the first of them is told.
		{entry(tooLongKey, 0, 0, tooLongValue), api.ErrKey},
		{entry("a", 0, 0, tooLongValue), api.ErrVersion},
		{deadWith("a", tooLongValue), api.ErrValue},
		{deadWith(tooLongKey, "v"), api.ErrKey},
		{api.Entry{Value: "v", Dead: true}, api.ErrVersion},
	} {
		if e := item.Check(x.e); e != x.want {
			t.Errorf("Check(%s): %d, want %d", told(x.e), e, x.want)
		}
	}
}

// P3.2
func TestCheckAllSamples(t *testing.T) {
	for _, x := range anyEntries() {
		if e := item.Check(x); e != firstWrong(x) {
			t.Errorf("Check(%s): %d, want %d", told(x), e, firstWrong(x))
		}
	}
}

// P3.3
func TestNewer(t *testing.T) {
	for _, x := range []struct {
		a, b api.Entry
		want bool
	}{
		{entry("a", 3, 0, "v"), entry("a", 2, 7, "v"), true},
		{entry("a", 3, 1, "v"), entry("a", 3, 0, "v"), true},
		{dead("a", 2, 0), entry("a", 1, 0, "v"), true},
		{entry("a", 2, 0, "v"), dead("a", 1, 0), true},
		{entry("a", 1, 0, "v"), api.Entry{}, true},
		// Whatever else they are.
		{entry("a", 2, 0, ""), entry("z", 1, 0, longValue), true},
		{entry(tooLongKey, greatest+1, 0, tooLongValue), entry("a", greatest, 7, ""), true},
		{entry("a", 1, 9, ""), entry("a", 1, 8, ""), true},
		{entry("a", 0, 0, ""), entry("a", -1, 0, ""), true},
		// Of one version neither is.
		{entry("a", 3, 1, "v"), entry("a", 3, 1, "v"), false},
		{entry("a", 3, 1, "w"), entry("a", 3, 1, "v"), false},
		{entry("b", 3, 1, "v"), entry("a", 3, 1, "v"), false},
		{dead("a", 3, 1), entry("a", 3, 1, "v"), false},
		{api.Entry{}, api.Entry{}, false},
	} {
		if is := item.Newer(x.a, x.b); is != x.want {
			t.Errorf("Newer(%s, %s): %t, want %t", told(x.a), told(x.b), is, x.want)
		}
		if item.Newer(x.b, x.a) {
			t.Errorf("Newer(%s, %s)", told(x.b), told(x.a))
		}
	}
}

// P3.3
func TestBest(t *testing.T) {
	for _, x := range []struct{ newer, older api.Entry }{
		{entry("a", 3, 0, "v"), entry("a", 2, 7, "w")},
		{entry("a", 3, 1, "v"), entry("a", 3, 0, "w")},
		{dead("a", 4, 0), entry("a", 3, 7, "w")},
		{entry("a", 4, 1, ""), dead("a", 4, 0)},
		{entry("a", 1, 0, "v"), api.Entry{}},
		{entry("b", 2, 0, "v"), entry("a", 1, 0, "v")},
		{entry("a", 2, 0, "v"), entry("b", 1, 0, "v")},
		{entry(tooLongKey, math.MaxInt, 9, tooLongValue), entry("a", greatest, 7, "v")},
	} {
		if best := item.Best(x.newer, x.older); best != x.newer {
			t.Errorf("Best(%s, %s): %s", told(x.newer), told(x.older), told(best))
		}
		if best := item.Best(x.older, x.newer); best != x.newer {
			t.Errorf("Best(%s, %s): %s", told(x.older), told(x.newer), told(best))
		}
	}
}

// P3.3
func TestBestOfOneVersion(t *testing.T) {
	same := []api.Entry{entry("a", 3, 1, "v"), entry("a", 3, 1, "w"), entry("a", 3, 1, ""), entry("b", 3, 1, "v"), dead("a", 3, 1)}
	for _, a := range same {
		for _, b := range same {
			if best := item.Best(a, b); best != a {
				t.Errorf("Best(%s, %s): %s, want the first", told(a), told(b), told(best))
			}
		}
	}
}

// P3.3
func TestBestOfAllInAnyOrder(t *testing.T) {
	var l []api.Entry
	for i, v := range anyVersions() {
		l = append(l, api.Entry{Key: "a", Version: v, Dead: i%2 == 0})
	}
	newest := l[len(l)-1]
	rnd := rand.New(rand.NewPCG(1, 2))
	for range 500 {
		rnd.Shuffle(len(l), func(i, j int) { l[i], l[j] = l[j], l[i] })
		best := l[0]
		for _, e := range l[1:] {
			best = item.Best(best, e)
		}
		if best != newest {
			t.Fatalf("the best is %s, want %s", told(best), told(newest))
		}
	}
}
