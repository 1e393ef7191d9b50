package ghost_test

import (
	"math/rand/v2"
	"slices"
	"testing"

	"tideline/api"
)

var (
	noVerdict = api.Verdict{}
	met       = api.Verdict{Kind: api.VerdictMet}
	full      = api.Verdict{Kind: api.VerdictFull}
)

func twinsOver(r api.Range) api.Verdict { return api.Verdict{Kind: api.VerdictTwins, Range: r} }

// P19.4: the chapter's examples.
func TestJudgeExamples(t *testing.T) {
	a1, a2 := list(at("a", 1)), list(at("a", 2))
	isJudged(t, a1, a2, a2, a2, config(2, 1), 0, met)
	isJudged(t, a1, a2, a2, a1, config(2, 1), 0, noVerdict)
	isJudged(t, a1, a2, a2, a1, config(2, 1), 1, full)
}

// sampleMaps are maps of all sorts: of no entry, of one, of few, of as many as two sides compare.
func sampleMaps() [][]api.Entry {
	return [][]api.Entry{
		nil,
		list(entry("", 1, 0, "")),
		list(dead("m", 7, 3)),
		list(entry("m", 7, 2, "")),
		list(entry(highest, greatest, 7, longValue)),
		under(oddKeys(), 0),
		under(oddKeys(), 4),
		many(2),
		many(33),
		many(most / 2),
		under(numbered(0, 100), 20),
		under(numbered(most/2, most/2), 0),
	}
}

// P19.4: where both sides have the newest of both they have met, whatever is refused.
func TestMet(t *testing.T) {
	for _, a := range sampleMaps() {
		for _, b := range sampleMaps() {
			n := plainMax(a, b)
			for _, refused := range []int{0, 1, highInt} {
				isJudged(t, a, b, n, slices.Clone(n), config(2, 1), refused, met)
				isJudged(t, b, a, n, n, config(16, 32), refused, met)
			}
		}
	}
	for _, l := range [][]api.Entry{many(most), many(most - 1)} {
		isJudged(t, l, nil, l, l, config(2, 1), 0, met)
		isJudged(t, nil, l, l, l, config(2, 1), 0, met)
		isJudged(t, l, l, l, l, config(2, 1), 0, met)
	}
}

// P19.4: the newest has under each key the newer entry, by Counter and then by Node, a dead one too.
func TestNewestByVersions(t *testing.T) {
	rising := list(entry("k", 1, 0, "first"), dead("k", 1, 1), entry("k", 1, 7, "third"), entry("k", 2, 0, ""), dead("k", greatest, 6), entry("k", greatest, 7, "a"))
	for i := range rising {
		for j := range rising {
			for n := range rising {
				want := noVerdict
				if n == max(i, j) {
					want = met
				}
				isJudged(t, rising[i:i+1], rising[j:j+1], rising[n:n+1], rising[n:n+1], config(2, 1), 0, want)
			}
		}
	}
}

// unlikeOf are maps that do not have, key by key and version by version, what l has.
func unlikeOf(l []api.Entry) [][]api.Entry {
	all := [][]api.Entry{merged(l, list(at("\xFE", 1))), merged(list(at("\x00\x01", 1)), l)}
	for i := 0; i < len(l); i += 1 + len(l)/5 {
		older, newer, nodes, key := slices.Clone(l), slices.Clone(l), slices.Clone(l), slices.Clone(l)
		older[i].Version.Counter = max(1, older[i].Version.Counter-1)
		newer[i].Version.Counter++
		nodes[i].Version.Node ^= 1
		key[i].Key += "\x00"
		all = append(all, slices.Delete(slices.Clone(l), i, i+1), older, newer, nodes, key)
	}
	return slices.DeleteFunc(all, func(m []api.Entry) bool { return plainWrong(m) != api.OK || sameVersions(m, l) })
}

// P19.4: one side that lacks an entry, has an older one, a newer one, one under another key, or one more, and they have not met, whichever side it is.
func TestNotMet(t *testing.T) {
	for _, a := range [][]api.Entry{nil, list(entry("m", 3, 1, "")), under(oddKeys()[2:12], 0), under(numbered(0, 60), 5)} {
		for _, b := range [][]api.Entry{nil, list(dead("m", 3, 2)), under(oddKeys()[2:9], 3), under(numbered(30, 60), 0)} {
			n := plainMax(a, b)
			for _, other := range unlikeOf(n) {
				for _, refused := range []int{0, 1} {
					want := noVerdict
					if refused > 0 {
						want = full
					}
					isJudged(t, a, b, other, n, config(2, 1), refused, want)
					isJudged(t, a, b, n, other, config(2, 1), refused, want)
					isJudged(t, a, b, other, other, config(2, 1), refused, want)
				}
			}
		}
	}
	// The newest of both is no other map's: not what either held, nor the newest of the ends.
	a, b := list(at("a", 1), at("b", 2)), list(at("a", 2), at("b", 1))
	isJudged(t, a, b, a, a, config(2, 1), 0, noVerdict)
	isJudged(t, a, b, b, b, config(2, 1), 0, noVerdict)
	isJudged(t, a, b, a, b, config(2, 1), 0, noVerdict)
	isJudged(t, nil, nil, a, a, config(2, 1), 0, noVerdict)
	isJudged(t, a, a, nil, nil, config(2, 1), 0, noVerdict)
}

// P19.4: Values, and whether entries are Dead, are not asked.
func TestMetByVersionsAlone(t *testing.T) {
	a, b := under(oddKeys()[:12], 0), under(oddKeys()[4:], 3)
	n := plainMax(a, b)
	x, y := slices.Clone(n), slices.Clone(n)
	for i := range n {
		x[i].Value, x[i].Dead = "another one", false
		y[i].Value, y[i].Dead = "", true
	}
	for _, l := range [][2][]api.Entry{{x, y}, {y, x}, {x, n}, {n, y}} {
		isJudged(t, a, b, l[0], l[1], config(2, 1), 0, met)
	}
}

// P19.4: what comes first where several verdicts hold: that they met, that there are twins, that an entry was refused; the range is that of the twins, and of no other verdict.
func TestOrderOfVerdicts(t *testing.T) {
	lower, upper := twins(0, 1)
	a, b := list(lower, at("z", 1)), list(upper, at("z", 2))
	n := plainMax(a, b)
	for _, refused := range []int{0, 1, 7, highInt} {
		last := noVerdict
		if refused > 0 {
			last = full
		}
		isJudged(t, a, b, n, n, config(2, 1), refused, met)
		isJudged(t, a, b, a, b, config(2, 1), refused, twinsOver(rng("", "z")))
		isJudged(t, a, b, n, b, config(16, 1), refused, twinsOver(rng("", "z")))
		isJudged(t, a, b, a, n, config(16, 1), refused, twinsOver(rng("", "z")))
		isJudged(t, a, b, a, b, config(2, 2), refused, last)
		isJudged(t, a[:1], b[:1], nil, nil, config(2, 2), refused, twinsOver(whole()))
		isJudged(t, a[1:], b[1:], nil, nil, config(2, 1), refused, last)
	}
}

// P19.4: the twins are those of what was held at the beginning, the first map being the opener's; what is held at the end is not asked.
func TestTwinsOfTheBeginning(t *testing.T) {
	lower, upper := twins(0, 1)
	isJudged(t, list(at("a", 1)), list(at("a", 2)), list(lower), list(upper), config(2, 1), 0, noVerdict)
	isJudged(t, list(lower), list(at("a", 2)), list(lower), list(upper), config(2, 1), 1, full)
	a, b := list(upper, at("z", 1), at("zz", 1)), list(lower, at("z", 2))
	isJudged(t, a, b, nil, nil, config(2, 2), 0, noVerdict)
	isJudged(t, b, a, nil, nil, config(2, 2), 0, twinsOver(rng("", "z")))
}

// P19.4: of the Config just Branch and Leaf count.
func TestRestOfTheConfig(t *testing.T) {
	lower, upper := twins(0, 1)
	a1, a2 := list(at("a", 1)), list(at("a", 2))
	for _, wait := range []int{lowInt, -1, 0, 1, 100, 101, highInt} {
		for _, tries := range []int{lowInt, -1, 0, 20, 21, highInt} {
			c := api.Config{Branch: 2, Leaf: 1, Wait: wait, Tries: tries}
			isJudged(t, a1, a2, a2, a2, c, 0, met)
			isJudged(t, a1, a2, a2, a1, c, 0, noVerdict)
			isJudged(t, a1, a2, a2, a1, c, 1, full)
			isJudged(t, list(lower), list(upper), a1, a1, c, 0, twinsOver(whole()))
		}
	}
}

// P19.4: Branch and Leaf are those by which the twins are looked for.
func TestJudgeAsTwins(t *testing.T) {
	kinds := map[int]int{}
	for _, n := range []int{2, 16, 40, most} {
		for branch := 2; branch <= 16; branch++ {
			for leaf := 1; leaf <= 32; leaf += 3 {
				a, b, _ := partly(n, n/2, branch)
				want := noVerdict
				if r, is := told(t, a, b, branch, leaf); is {
					want = twinsOver(r)
				}
				kinds[want.Kind]++
				isJudged(t, a, b, a, b, config(branch, leaf), 0, want)
				isJudged(t, a, b, plainMax(a, b)[:min(len(a), len(b))], b, config(branch, leaf), 0, want)
			}
		}
	}
	if kinds[0] < 20 || kinds[2] < 100 {
		t.Errorf("kinds: %v", kinds)
	}
}

// end is what a side may hold at a session's end: the newest of both, or something else.
func end(rnd *rand.Rand, own, newest []api.Entry) []api.Entry {
	switch rnd.IntN(5) {
	case 0:
		return own
	case 1:
		all := unlikeOf(newest)
		return all[rnd.IntN(len(all))]
	}
	return newest
}

// P19.4: any maps, held against the second reading.
func TestAnyVerdicts(t *testing.T) {
	rnd := rand.New(rand.NewPCG(19, 4))
	kinds := map[int]int{}
	for range 3000 {
		a, b := withTwins(rnd, [][]string{oddKeys(), allKeys(8), allKeys(60)}[rnd.IntN(3)])
		n := plainMax(a, b)
		x, y := end(rnd, a, n), end(rnd, b, n)
		c := config(2+rnd.IntN(15)*rnd.IntN(2), 1+rnd.IntN(32)*rnd.IntN(2))
		refused := rnd.IntN(3)
		want, wrong := plainJudge(a, b, x, y, c, refused)
		if wrong != api.OK {
			t.Fatalf("the second reading: %d", wrong)
		}
		kinds[want.Kind]++
		isJudged(t, a, b, x, y, c, refused, want)
	}
	for kind := range 4 {
		if kinds[kind] < 100 {
			t.Errorf("kinds: %v", kinds)
		}
	}
}
