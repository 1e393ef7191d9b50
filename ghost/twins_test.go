package ghost_test

import (
	"fmt"
	"math/rand/v2"
	"slices"
	"testing"

	"tideline/api"
	"tideline/ghost"
	"tideline/tally"
)

// The samples are what they are said to be: each family's pairs come to the same with whatever version, and the families rise.
func TestFamiliesAreTwins(t *testing.T) {
	ahead := ""
	for i, f := range families() {
		for n := range 256 {
			lower, upper := f.keys(n)
			if !(ahead < f.lower && f.lower < f.upper) || lower[:8] != f.lower || upper[:8] != f.upper || len(lower) != 16 || len(upper) != 16 {
				t.Fatalf("family %d: %q, %q", i, lower, upper)
			}
			for _, v := range []api.Version{version(1, 0), version(7, 3), version(greatest, 7)} {
				a, b := api.Entry{Key: lower, Version: v, Value: "x"}, api.Entry{Key: upper, Version: v, Dead: true}
				if tally.Of(a) != tally.Of(b) {
					t.Fatalf("family %d: %q and %q do not come to the same", i, lower, upper)
				}
			}
		}
		ahead = f.upper
	}
}

// eachBound goes through Branches and Leafs, at the edges and within.
func eachBound(do func(branch, leaf int)) {
	for _, branch := range []int{2, 3, 5, 15, 16} {
		for _, leaf := range []int{1, 2, 3, 8, 31, 32} {
			do(branch, leaf)
		}
	}
}

// P19.3: the chapter's examples.
func TestTwinsExamples(t *testing.T) {
	isTold(t, list(at("a", 1)), list(at("a", 1)), 2, 1, api.Range{})
	isTold(t, list(at("a", 1)), list(at("a", 2)), 2, 1, api.Range{})
	if r, is, e := ghost.Twins(list(at("a", 1)), list(at("a", 2)), 1, 1); r != (api.Range{}) || is || e != api.ErrArg {
		t.Error(r, is, e)
	}
}

// P19.3: maps that are alike, empty ones too, have no unlike entries; Values, and whether entries are Dead, are not asked.
func TestAlikeMapsAreNoTwins(t *testing.T) {
	for _, l := range [][]api.Entry{nil, {}, {at("", 1)}, {dead("m", 7, 3)}, under(oddKeys(), 0), many(2), many(33), many(most - 1), many(most)} {
		others := slices.Clone(l)
		for i := range others {
			others[i].Value, others[i].Dead = "another one", false
			if i%2 == 1 {
				others[i].Value, others[i].Dead = "", true
			}
		}
		eachBound(func(branch, leaf int) {
			isTold(t, l, slices.Clone(l), branch, leaf, api.Range{})
			isTold(t, l, others, branch, leaf, api.Range{})
			isTold(t, others, l, branch, leaf, api.Range{})
		})
	}
}

// P19.3: maps that differ in one key, in many, in all, or by keys that one side has alone: where no tallies are alike there are no twins.
func TestUnlikeMapsAreNoTwins(t *testing.T) {
	all := many(most)
	one := slices.Clone(all)
	one[77].Version.Counter += 1000
	for _, x := range [][2][]api.Entry{
		{nil, list(at("a", 1))},
		{nil, all},
		{all, one},
		{all, all[:most-1]},
		{all, all[1:]},
		{all[:most/2], all[most/2:]},
		{all, under(numbered(0, most), 500)},
		{all, under(numbered(100, most), 500)},
		{under(oddKeys(), 0), under(oddKeys(), 1)},
	} {
		eachBound(func(branch, leaf int) {
			isTold(t, x[0], x[1], branch, leaf, api.Range{})
			isTold(t, x[1], x[0], branch, leaf, api.Range{})
		})
	}
}

// pairs are entries under n pairs of keys, of all families: the lower ones, and the upper ones, with each other's versions.
func pairs(n int) (lowers, uppers []api.Entry) {
	for i := range n {
		k, l := families()[i%8].keys(i)
		lowers, uppers = append(lowers, entry(k, 1+i%5, i%8, "x")), append(uppers, dead(l, 1+i%5, i%8))
	}
	return rising(lowers...), rising(uppers...)
}

// P19.3: where the two maps come to the same as a whole, and are unlike, the whole range is told, for every Branch and Leaf: nothing is split ahead of it.
func TestWholeMapsThatAreTwins(t *testing.T) {
	lower, upper := twins(0, 3)
	older, also := twins(0, 2)
	rest := many(most - 1)
	lowers, uppers := pairs(most)
	fewer, others := pairs(100)
	for _, x := range [][2][]api.Entry{
		{list(lower), list(upper)},
		{list(lower, also), list(older, upper)}, // the same keys, with unlike versions
		{merged(list(lower), rest), merged(list(upper), rest)},
		{lowers, uppers},
		{merged(fewer, rest[:156]), merged(others, rest[:156])},
	} {
		eachBound(func(branch, leaf int) {
			isTold(t, x[0], x[1], branch, leaf, whole())
			isTold(t, x[1], x[0], branch, leaf, whole())
		})
	}
}

// halves are families whose pairs come to the same in one lane alone, in the first and in the second one.
func halves() [2]family {
	return [2]family{
		{"one lane", "onelane\x00", "\x8e\xd8\xb9\xaa\x10\x3b\xd7\x2e"},
		{"one lane", "onelane\x00", "\x26\xd2\x32\x86\x26\xd2\x32\x8a"},
	}
}

// sumAlone are maps that come to the same but for the number of their entries: of the one entry, and of the two. (The keys were searched for.)
func sumAlone() (one, two []api.Entry) {
	one = list(at("\x3c\x11\x58\xb9\xa7\x90\xb2\x91\x0a\x48\xf2\x01\x6d\x51\xd5\xbb", 1))
	return one, list(at("between \xe7\xc7\x07\xc1\xe6\x4b\x18\x4e", 1), at("the counts of it", 1))
}

// P19.3: maps whose tallies are unlike in one lane alone, or in their number alone, are no twins, and are split.
func TestNearlyTwins(t *testing.T) {
	lower, upper := twins(0, 3)
	_, newer := twins(0, 4)
	one, two := sumAlone()
	if plainTally(one).Sum != plainTally(two).Sum {
		t.Fatal("the sums are unlike")
	}
	nearly := [][2][]api.Entry{
		{one, two},
		{list(lower), list(lower, upper)},
		{list(lower), list(newer)},
		{list(lower), list(entry(upper.Key, 3, 1, ""))},
		{nil, list(lower)},
	}
	for lane, f := range halves() {
		k, l := f.keys(3)
		x := [2][]api.Entry{list(at(k, 1)), list(at(l, 1))}
		if s, u := plainTally(x[0]).Sum, plainTally(x[1]).Sum; s[lane] != u[lane] || s == u {
			t.Fatalf("lane %d: %v and %v", lane, s, u)
		}
		nearly = append(nearly, x)
	}
	for _, x := range nearly {
		eachBound(func(branch, leaf int) {
			isTold(t, x[0], x[1], branch, leaf, api.Range{})
			isTold(t, x[1], x[0], branch, leaf, api.Range{})
		})
		// With a pair of twins behind them they are still split, and just that pair's range is told.
		last, also := twins(7, 1)
		isTold(t, merged(x[0], list(also)), merged(x[1], list(last)), 16, 1, from(last.Key))
	}
}

// P19.3: a range into which the whole one is split; where the maps are sent outright nothing more is compared.
func TestTwinsBehindOneSplit(t *testing.T) {
	lower, upper := twins(0, 1)
	a, b := list(lower, at("z", 1)), list(upper, at("z", 2))
	for branch := 2; branch <= 16; branch++ {
		isTold(t, a, b, branch, 1, rng("", "z"))
		isTold(t, b, a, branch, 1, rng("", "z"))
		for leaf := 2; leaf <= 32; leaf++ {
			isTold(t, a, b, branch, leaf, api.Range{})
			isTold(t, b, a, branch, leaf, api.Range{})
		}
	}
}

// P19.3: entries whose range is split between them are no twins.
func TestTwinsThatAreParted(t *testing.T) {
	lower, upper := twins(0, 1)
	isTold(t, list(lower, at("z", 1)), list(at("\x01", 1), upper), 2, 1, api.Range{})
	isTold(t, list(at("\x01", 1), upper), list(lower, at("z", 1)), 2, 1, api.Range{})
	// Split at the upper one in the first turn, they are; at the lower one they are not.
	a, b := list(at("\x01", 1), upper, at("z", 2)), list(at("\x01", 1), lower, at("z", 1))
	isTold(t, a, b, 3, 1, rng(lower.Key, "z"))
	isTold(t, b, a, 3, 1, api.Range{})
}

// P19.3: of those of one turn the first part's range is told.
func TestFirstTwinsOfATurn(t *testing.T) {
	lower0, upper0 := twins(0, 1)
	lower5, upper5 := twins(5, 1)
	lower7, upper7 := twins(7, 1)
	a, b := list(upper0, upper5, upper7, at("\xF0", 1)), list(lower0, lower5, lower7, at("\xF0", 2))
	isTold(t, a, b, 16, 1, rng("", lower5.Key))
	a[0] = at("\x01", 3)
	isTold(t, a, b, 16, 1, rng(lower5.Key, lower7.Key))
	a[1] = entry(upper5.Key, 2, 0, "")
	isTold(t, a, b, 16, 1, rng(lower7.Key, "\xF0"))
	a[2] = entry(upper7.Key, 2, 0, "")
	isTold(t, a, b, 16, 1, api.Range{})
}

// P19.3: what is compared in an earlier turn is told ahead of what has lower keys, and is compared later.
func TestTwinsOfTheEarlierTurn(t *testing.T) {
	lower0, upper0 := twins(0, 1)
	lower5, upper5 := twins(5, 1)
	a := list(upper0, at("\x20", 1), upper5, at("\xB0", 1))
	b := list(lower0, at("\x20", 2), lower5, at("\xB0", 1))
	isTold(t, a, b, 2, 1, from(lower5.Key))
	a[3], b[3] = at("\xB0", 2), at("\xB0", 3)
	isTold(t, a, b, 2, 1, rng("", "\x20"))
	a[0] = at("\x01", 1)
	isTold(t, a, b, 2, 1, rng(lower5.Key, "\xB0"))
	a[2] = at("\x96", 1)
	isTold(t, a, b, 2, 1, api.Range{})
}

// P19.3: it is the peer that compares first, with what it holds: which side opens counts.
func TestWhoOpensCounts(t *testing.T) {
	lower, upper := twins(0, 1)
	a, b := list(upper, at("z", 1), at("zz", 1)), list(lower, at("z", 2))
	isTold(t, a, b, 2, 2, api.Range{})
	isTold(t, b, a, 2, 2, rng("", "z"))
	// Split at the upper key by one side, behind it by the other one.
	c, d := list(at("\x01", 1), upper, at("z", 1)), list(lower, at("y", 1), at("z", 2))
	isTold(t, c, d, 2, 1, api.Range{})
	isTold(t, d, c, 2, 1, api.Range{})
}

// P19.3: who hears a range has it split if it holds more than Leaf entries there, whatever the other one holds.
func TestCountsAroundLeaf(t *testing.T) {
	lower, upper := twins(0, 1)
	rest := alike(numbered(0, most-1))
	for leaf := 1; leaf <= 32; leaf++ {
		for branch := 2; branch <= 16; branch += 2 {
			for _, n := range []int{2, leaf - 1, leaf, leaf + 1, leaf + 2, 40} {
				if n < 2 {
					continue
				}
				b := merged(list(lower), rest[:n-1])
				b[n-1].Version.Counter = 2
				end, want := n/min(branch, n), api.Range{}
				if n > leaf {
					want = rng("", b[end].Key)
				}
				for _, m := range []int{n - 1, end - 1, leaf, leaf + 1, most - 1} {
					if m >= end-1 {
						isTold(t, merged(list(upper), rest[:m]), b, branch, leaf, want)
					}
				}
			}
		}
	}
}

// alike are entries of these keys, all of one version.
func alike(keys []string) []api.Entry {
	var l []api.Entry
	for _, key := range keys {
		l = append(l, at(key, 1))
	}
	return l
}

// partly are two maps of n keys of which all are unlike but those of one part, among these the i-th, which is of twins: its range is told behind one split.
func partly(n, i, branch int) (a, b []api.Entry, want api.Range) {
	lower, upper := twins(4, 9)
	for j := range n {
		key := fmt.Sprintf("\x01%03d", j)
		if j > i {
			key = fmt.Sprintf("\xF0%03d", j)
		}
		a, b = append(a, at(key, 1)), append(b, at(key, 1))
	}
	a[i], b[i] = upper, lower
	parts := min(branch, n)
	want = whole()
	for part := range parts {
		start, end := part*n/parts, (part+1)*n/parts
		if start <= i && i < end {
			if start > 0 {
				want.Lo = b[start].Key
			}
			if end < n {
				want.Hi, want.Open = b[end].Key, false
			}
			continue
		}
		for j := start; j < end; j++ {
			b[j].Version.Counter = 2
		}
	}
	return a, b, want
}

// P19.3: a range is split into as many as the lesser one of Branch and the entries that who hears it holds there, each with as many as another one, but for one; the bounds of each are told.
func TestPartsOfASplit(t *testing.T) {
	for _, n := range []int{2, 3, 15, 16, 17, 31, 100, most - 1, most} {
		for branch := 2; branch <= 16; branch++ {
			for i := 0; i < n; i += 1 + n/40 {
				a, b, want := partly(n, i, branch)
				isTold(t, a, b, branch, 1, want)
			}
		}
	}
}

// withTwins are two maps of some of these keys, and of pairs of keys: many alike, some unlike, some of them twins.
func withTwins(rnd *rand.Rand, keys []string) (a, b []api.Entry) {
	all := someMap(rnd, keys)
	often := 1 + rnd.IntN(30)
	for _, x := range all {
		switch y := someEntry(rnd, x.Key); rnd.IntN(often + 3) {
		case 0:
			a = append(a, x)
		case 1:
			b = append(b, y)
		case 2:
			a, b = append(a, x), append(b, y)
		default:
			a, b = append(a, x), append(b, x)
		}
	}
	for _, f := range families() {
		k, l := f.keys(rnd.IntN(256))
		c, d := 1+rnd.IntN(3), 1+rnd.IntN(3)
		switch rnd.IntN(9) {
		case 0, 1:
			a, b = append(a, at(k, c)), append(b, at(l, c))
		case 2, 3:
			a, b = append(a, at(l, c)), append(b, at(k, c))
		case 4:
			a, b = append(a, at(k, c), at(l, d)), append(b, at(k, d), at(l, c))
		case 5:
			a, b = append(a, at(k, c), at(l, d)), append(b, at(k, c), at(l, d))
		case 6:
			a, b = append(a, at(k, c)), append(b, at(l, d))
		}
	}
	return rising(a...), rising(b...)
}

// allKeys are keys all over, between and beside those of the families.
func allKeys(n int) []string {
	var l []string
	for i := range n {
		l = append(l, fmt.Sprintf("%c%d", rune(i*255/n), 1000+i))
	}
	slices.Sort(l)
	return l
}

// asTwins holds Twins against the second reading; it tells what the latter found.
func asTwins(t *testing.T, a, b []api.Entry, branch, leaf int) compared {
	t.Helper()
	want := firstOf(plainAll(a, b, branch, leaf))
	isTold(t, a, b, branch, leaf, want.r)
	return want
}

// P19.3: any maps, held against the second reading, with twins in early turns and in late ones, behind several splits, and without.
func TestAnyTwins(t *testing.T) {
	rnd := rand.New(rand.NewPCG(19, 3))
	found := map[int]int{}
	for range 4000 {
		keys := [][]string{oddKeys(), allKeys(8), allKeys(60), allKeys(most - 16)}[rnd.IntN(4)]
		a, b := withTwins(rnd, keys)
		if rnd.IntN(2) == 0 {
			a, b = b, a
		}
		if c := asTwins(t, a, b, 2+rnd.IntN(15)*rnd.IntN(2), 1+rnd.IntN(32)*rnd.IntN(2)); c.twins {
			found[c.turn]++
		} else {
			found[-1]++
		}
	}
	for _, turn := range []int{-1, 0, 1, 2, 3, 4, 5} {
		if found[turn] < 50 {
			t.Errorf("by turns: %v", found)
			break
		}
	}
}

// deep are two maps of n keys that are unlike at each key but a pair, which is the lowest one of either.
func deep(n int) (a, b []api.Entry) {
	lower, upper := twins(0, 1)
	rest := many(n - 1)
	other := slices.Clone(rest)
	for i := range other {
		other[i].Version.Counter += 1000
	}
	return merged(list(upper), rest), merged(list(lower), other)
}

// P19.3: twins that are met behind as many splits as there may be.
func TestDeepTwins(t *testing.T) {
	for _, x := range []struct{ branch, turn int }{{2, 8}, {3, 5}, {4, 4}, {16, 2}} {
		a, b := deep(most)
		if c := asTwins(t, a, b, x.branch, 1); !c.twins || c.turn < x.turn || c.r.Lo != "" || c.r.Hi != "k\x00\x00" {
			t.Errorf("Branch %d: %s in turn %d", x.branch, quoted(c.r), c.turn)
		}
		if c := asTwins(t, b, a, x.branch, 1); !c.twins || c.turn < x.turn {
			t.Errorf("Branch %d: %s in turn %d", x.branch, quoted(c.r), c.turn)
		}
		asTwins(t, a, b, x.branch, 32)
	}
}

// P19.3: all pairs of maps over some keys that are twins, with one version or another.
func TestAllSmallMapsOfTwins(t *testing.T) {
	lower0, upper0 := twins(0, 1)
	lower5, upper5 := twins(5, 1)
	small := [][]api.Entry{nil}
	for _, key := range []string{lower0.Key, upper0.Key, lower5.Key, upper5.Key, "\xF0"} {
		for _, l := range small {
			small = append(small, append(slices.Clone(l), at(key, 1)))
			if key != lower5.Key && key != upper5.Key {
				small = append(small, append(slices.Clone(l), at(key, 2)))
			}
		}
	}
	found := 0
	for _, a := range small {
		for _, b := range small {
			for _, leaf := range []int{1, 2} {
				if asTwins(t, a, b, 2, leaf).twins {
					found++
				}
			}
			asTwins(t, a, b, 16, 1)
		}
	}
	if found < 500 {
		t.Errorf("%d of %d maps", found, len(small))
	}
}
