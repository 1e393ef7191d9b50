package match_test

import (
	"math"
	"slices"
	"testing"

	"tideline/api"
	"tideline/match"
	"tideline/store"
)

// flawed is a part that may not be, whatever stands beside it, and the error of frame.CheckParts.
type flawed struct {
	what string
	p    api.Part
	e    api.Errno
}

// flaws are such, with a flaw each, of all rules of P11.2.
func flaws() []flawed {
	withTally := func(p api.Part, t api.Tally) api.Part {
		p.Tally = t
		return p
	}
	withEntries := func(p api.Part, l ...api.Entry) api.Part {
		p.Entries = l
		return p
	}
	r := rng("b", "d")
	l := []flawed{
		{"the kind 0", api.Part{Range: r}, api.ErrPart},
		{"the kind 4", api.Part{Kind: 4, Range: r}, api.ErrPart},
		{"a kind below 0", api.Part{Kind: -1, Range: r, Entries: list(at("b"))}, api.ErrPart},
		{"the least kind", api.Part{Kind: math.MinInt, Range: r}, api.ErrPart},
		{"the zero Part", api.Part{}, api.ErrPart},
		{"a Print with entries", withEntries(print(r, tally(1, 1, 1)), at("b")), api.ErrPart},
		{"Items with a Count", withTally(items(r, at("b")), tally(1, 0, 0)), api.ErrPart},
		{"a Reply with a Sum", withTally(reply(r, at("b")), tally(0, 1, 0)), api.ErrPart},
		{"a Count below 0", print(r, tally(-1, 0, 0)), api.ErrTally},
		{"a Count too great", print(r, tally(most+1, 1, 1)), api.ErrTally},
		{"a Sum of nothing", print(r, tally(0, 0, 1)), api.ErrTally},
		{"a Reply without entries", reply(r), api.ErrItems},
		{"a Reply with an empty list", reply(r, list()...), api.ErrItems},
		{"Items with too many entries", items(whole(), under(numbered(0, most+1), 0)...), api.ErrMany},
		{"a Reply with too many entries", reply(whole(), under(numbered(0, most+1), 0)...), api.ErrMany},
	}
	for _, p := range parts(print(r, tally(1, 1, 1)), items(r), reply(r, at("b"))) {
		l = append(l, rangeFlaws(p)...)
	}
	return slices.Concat(l, entryFlaws(items(r)), entryFlaws(reply(r)))
}

func rangeFlaws(p api.Part) []flawed {
	with := func(r api.Range) api.Part {
		p.Range = r
		return p
	}
	return []flawed{
		{"a long Lo", with(rng(tooLongKey, "z")), api.ErrKey},
		{"a long Hi", with(rng("b", tooLongKey)), api.ErrKey},
		{"an inverted range", with(rng("d", "b")), api.ErrRange},
		{"an Open range with an end", with(openTo("b", "d")), api.ErrRange},
		{"an empty range", with(rng("b", "b")), api.ErrTiles},
		{"the zero Range", with(api.Range{}), api.ErrTiles},
	}
}

func entryFlaws(p api.Part) []flawed {
	with := func(l ...api.Entry) api.Part {
		p.Entries = l
		return p
	}
	return []flawed{
		{"an entry with a long key", with(at("b"), at("b"+longKey)), api.ErrKey},
		{"an entry without a version", with(at("b"), entry("c", 0, 0, "")), api.ErrVersion},
		{"an entry with too great a Counter", with(entry("c", greatest+1, 0, "")), api.ErrVersion},
		{"an entry of no node", with(at("b"), entry("c", 1, 8, "")), api.ErrVersion},
		{"an entry with a long value", with(at("b"), entry("c", 1, 0, tooLongValue)), api.ErrValue},
		{"a dead entry with a value", with(api.Entry{Key: "c", Version: api.Version{Counter: 1}, Value: "v", Dead: true}), api.ErrDead},
		{"the zero Entry", with(api.Entry{}), api.ErrVersion},
		{"an entry below the range", with(at("a"), at("b")), api.ErrItems},
		{"an entry above the range", with(at("b"), at("d")), api.ErrItems},
		{"entries that do not rise", with(at("c"), at("b")), api.ErrItems},
		{"an entry twice", with(at("b"), at("b")), api.ErrItems},
	}
}

// refusing are stores of which wrong calls must change nothing: of no entry, of one, of some, and full.
func refusing(t *testing.T) []*store.Store {
	return []*store.Store{holding(t, nil), holding(t, list(dead("b", 3, 0))), holding(t, abc()), holding(t, many(most))}
}

func compareRefuses(t *testing.T, what string, branch, leaf int, p api.Part, want api.Errno) {
	t.Helper()
	for _, s := range refusing(t) {
		untouched(t, what, s, func() {
			if l, e := match.Compare(s, branch, leaf, p); len(l) > 0 || e != want {
				t.Fatalf("%s: Compare(%d, %d, %s): %s, %d, want %d", what, branch, leaf, brief(p), brief(l...), e, want)
			}
		})
	}
}

func exchangeRefuses(t *testing.T, what string, p api.Part, want api.Errno) {
	t.Helper()
	for _, s := range refusing(t) {
		untouched(t, what, s, func() {
			if l, h, e := match.Exchange(s, p); len(l) > 0 || h != (api.Heard{}) || e != want {
				t.Fatalf("%s: Exchange(%s): %s, %v, %d, want %d", what, brief(p), brief(l...), h, e, want)
			}
		})
	}
}

func allRefuses(t *testing.T, what string, branch, leaf int, l []api.Part, want api.Errno) {
	t.Helper()
	for _, s := range refusing(t) {
		untouched(t, what, s, func() {
			if answer, h, e := match.All(s, branch, leaf, l); len(answer) > 0 || h != (api.Heard{}) || e != want {
				t.Fatalf("%s: All(%d, %d, %s): %s, %v, %d, want %d", what, branch, leaf, brief(l...), brief(answer...), h, e, want)
			}
		})
	}
}

// P13.2, P13.3, P13.4: frame.CheckParts' error of a part that may not be, ahead of ErrPart for its Kind.
func TestFlawedPart(t *testing.T) {
	for _, x := range flaws() {
		compareRefuses(t, x.what, 2, 1, x.p, x.e)
		compareRefuses(t, x.what, 16, 32, x.p, x.e)
		exchangeRefuses(t, x.what, x.p, x.e)
		allRefuses(t, x.what, 2, 1, parts(x.p), x.e)
	}
}

// P13.4: one flawed part among others, and nothing of these is done, ahead of it or behind it.
func TestFlawedPartAmongOthers(t *testing.T) {
	ahead, behind := items(rng("", "b"), entry("a", 99, 0, "new")), reply(from("e"), entry("e", 99, 0, "new"))
	for _, x := range flaws() {
		allRefuses(t, x.what, 2, 1, parts(ahead, x.p, behind), x.e)
		allRefuses(t, x.what, 16, 32, parts(ahead, x.p), x.e)
		allRefuses(t, x.what, 16, 32, parts(x.p, behind), x.e)
	}
}

// P13.4: what is wrong with parts side by side, and with all of them together.
func TestWrongLists(t *testing.T) {
	prints := func(n int) []api.Part {
		var l []api.Part
		for _, r := range lines(n, 1) {
			l = append(l, print(r, tally(1, 1, 1)))
		}
		return l
	}
	a, b := items(rng("a", "b"), entry("a", 99, 0, "")), reply(rng("b", "c"), entry("b", 99, 0, ""))
	for _, x := range []struct {
		what string
		l    []api.Part
		e    api.Errno
	}{
		{"one part too many", prints(mostParts + 1), api.ErrMany},
		{"far too many parts", make([]api.Part, 100*mostParts), api.ErrMany},
		{"too many parts, with a flaw", append(parts(api.Part{}), prints(mostParts)...), api.ErrMany},
		{"too many entries of two parts", parts(items(rng("a", "l"), many(most)...), items(from("l"), at("m"))), api.ErrMany},
		{"too many entries of two parts, with a flaw", parts(reply(rng("l", "a"), many(most)...), items(from("l"), at("m"))), api.ErrMany},
		{"the second one below the first", parts(b, a), api.ErrTiles},
		{"a part twice", parts(a, a), api.ErrTiles},
		{"one that begins within the one ahead", parts(a, items(rng("a\x00", "c"))), api.ErrTiles},
		{"one behind an Open one", parts(a, items(from("b")), print(rng("c", "d"), tally(1, 1, 1))), api.ErrTiles},
		{"two flaws, that of the first part first", parts(a, reply(rng("b", "c")), print(rng("d", "c"), tally(-1, 0, 0))), api.ErrItems},
		{"two flaws of a part, that of its Range first", parts(a, print(rng("d", "c"), tally(-1, 0, 0))), api.ErrRange},
		{"a flaw in the last part of as many as may be", append(prints(mostParts)[:mostParts-1], print(from("l"), tally(0, 1, 1))), api.ErrTally},
	} {
		allRefuses(t, x.what, 2, 1, x.l, x.e)
		allRefuses(t, x.what, 1, 1, x.l, api.ErrArg)
		allRefuses(t, x.what, 2, 33, x.l, api.ErrArg)
	}
}

// P13.2, P13.3: ErrPart for a part that may be, and is of the wrong Kind; All has each.
func TestWrongKind(t *testing.T) {
	for _, r := range []api.Range{whole(), rng("a", "c"), rng("x", "y"), from("b")} {
		for _, p := range parts(items(r), items(r, entry(r.Lo, 99, 0, "new")), reply(r, entry(r.Lo, 99, 0, "new"))) {
			compareRefuses(t, "no Print", 2, 1, p, api.ErrPart)
			compareRefuses(t, "no Print", 16, 32, p, api.ErrPart)
			answered(t, holding(t, abc()), 2, 1, parts(p))
		}
		for _, own := range []api.Tally{{}, tally(1, 1, 1), plainTally(abc())} {
			exchangeRefuses(t, "a Print", print(r, own), api.ErrPart)
			answered(t, holding(t, abc()), 2, 1, parts(print(r, own)))
		}
	}
}

// P13.2, P13.4: ErrArg of a branch, or a leaf, out of its bounds, ahead of all that is wrong with the parts.
func TestWrongBranchAndLeaf(t *testing.T) {
	wrong := parts(print(whole(), tally(1, 1, 1)), print(whole(), api.Tally{}), items(whole()), items(rng("a", "c"), entry("b", 99, 0, "new")), reply(whole(), entry("b", 99, 0, "new")))
	for _, x := range flaws() {
		wrong = append(wrong, x.p)
	}
	for _, p := range wrong {
		for _, branch := range outside(2, 16) {
			compareRefuses(t, "branch", branch, 1, p, api.ErrArg)
			allRefuses(t, "branch", branch, 32, parts(p), api.ErrArg)
		}
		for _, leaf := range outside(1, 32) {
			compareRefuses(t, "leaf", 2, leaf, p, api.ErrArg)
			allRefuses(t, "leaf", 16, leaf, parts(p), api.ErrArg)
		}
		compareRefuses(t, "both", 1, 0, p, api.ErrArg)
		compareRefuses(t, "both", 17, 33, p, api.ErrArg)
		allRefuses(t, "both", 0, 0, parts(p), api.ErrArg)
	}
	for _, none := range [][]api.Part{nil, {}} {
		allRefuses(t, "branch, no parts", 1, 1, none, api.ErrArg)
		allRefuses(t, "branch, no parts", 17, 1, none, api.ErrArg)
		allRefuses(t, "leaf, no parts", 2, 0, none, api.ErrArg)
		allRefuses(t, "leaf, no parts", 2, 33, none, api.ErrArg)
	}
}

// P13.2, P13.4: each branch and leaf within the bounds is had, the bounds too.
func TestEachBranchAndLeaf(t *testing.T) {
	s := holding(t, many(64))
	for branch := 2; branch <= 16; branch++ {
		for leaf := 1; leaf <= 32; leaf++ {
			p := print(whole(), tally(1, 1, 1))
			if l := compared(t, s, branch, leaf, p); len(l) != branch {
				t.Errorf("branch %d, leaf %d: %s", branch, leaf, brief(l...))
			}
			if l, _ := answered(t, s, branch, leaf, parts(p)); len(l) != branch {
				t.Errorf("branch %d, leaf %d: All: %s", branch, leaf, brief(l...))
			}
		}
	}
}

// R3: with an error nothing that was handed in is changed either.
func TestRefusedPartsAreNotChanged(t *testing.T) {
	for _, x := range flaws() {
		own := roomy(parts(x.p))
		was := everything(own)
		s := holding(t, abc())
		match.Compare(s, 2, 1, own[0])
		match.Exchange(s, own[0])
		match.All(s, 2, 1, own)
		if !same(everything(own), was) {
			t.Errorf("%s: it was changed: %s", x.what, brief(own...))
		}
	}
}
