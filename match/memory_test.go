package match_test

import (
	"math"
	"slices"
	"testing"

	"tideline/api"
	"tideline/match"
	"tideline/store"
)

// roomy is a copy of parts whose lists have spare room, as much as an answer may need, with parts and entries in it.
func roomy(l []api.Part) []api.Part {
	spareEntries := slices.Repeat(list(at("spare")), 40)
	spareParts := slices.Repeat(parts(items(rng("spare", "t"), at("spare"))), 40)
	l = slices.Clone(l)
	for i, p := range l {
		l[i].Entries = slices.Concat(p.Entries, spareEntries)[:len(p.Entries)]
	}
	return slices.Concat(l, spareParts)[:len(l)]
}

// everything is a copy of all that these lists have, with what lies behind their lengths.
func everything(l []api.Part) []api.Part {
	l = slices.Clone(l[:cap(l)])
	for i, p := range l {
		l[i].Entries = slices.Clone(p.Entries[:cap(p.Entries)])
	}
	return l
}

// copied is a copy of parts with lists of their own.
func copied(l []api.Part) []api.Part {
	l = slices.Clone(l)
	for i, p := range l {
		l[i].Entries = slices.Clone(p.Entries)
	}
	return l
}

// spoil writes over all that these lists have, and over their spare room.
func spoil(l []api.Part) {
	l = l[:cap(l)]
	for i := range l {
		entries := l[i].Entries[:cap(l[i].Entries)]
		for j := range entries {
			entries[j] = entry("spoilt", math.MaxInt, -1, "spoilt")
		}
		l[i] = api.Part{Kind: 99, Range: rng("spoilt", ""), Tally: tally(-1, 1, 1)}
	}
}

// call is one of the calls, of a list of parts of which it takes one, or all.
type call struct {
	what string
	in   []api.Part
	do   func(s *store.Store, l []api.Part) ([]api.Part, api.Errno)
}

// calls are such that tell and take entries, each of a store with the odd keys.
func calls() []call {
	comparing := func(branch, leaf int) func(s *store.Store, l []api.Part) ([]api.Part, api.Errno) {
		return func(s *store.Store, l []api.Part) ([]api.Part, api.Errno) {
			return match.Compare(s, branch, leaf, l[0])
		}
	}
	exchanging := func(s *store.Store, l []api.Part) ([]api.Part, api.Errno) {
		answer, _, e := match.Exchange(s, l[0])
		return answer, e
	}
	all := func(s *store.Store, l []api.Part) ([]api.Part, api.Errno) {
		answer, _, e := match.All(s, 3, 5, l)
		return answer, e
	}
	return []call{
		{"Compare, the same", parts(plainOf(under(oddKeys(), 0)).print(whole())), comparing(2, 1)},
		{"Compare, Items", parts(print(whole(), api.Tally{})), comparing(2, 32)},
		{"Compare, Prints", parts(print(whole(), api.Tally{})), comparing(16, 1)},
		{"Exchange, Items", parts(items(whole(), under(oddKeys()[3:12], 4)...)), exchanging},
		{"Exchange, Items without entries", parts(items(from("a"))), exchanging},
		{"Exchange, a Reply", parts(reply(whole(), under(oddKeys()[2:], 4)...)), exchanging},
		{"All", parts(
			print(rng("", "A"), tally(1, 1, 1)),
			items(rng("A", "aa"), under([]string{"a", "a\x00"}, 9)...),
			print(rng("aa", "b"), tally(2, 2, 2)),
			items(rng("b", "c"), under([]string{"b", "bb"}, 0)...),
			reply(rng("c", "k"), under([]string{"c", "d"}, 0)...),
			items(rng("k", "\xFF")),
			print(from("\xFF"), api.Tally{}),
		), all},
	}
}

// R3: what is handed in is not changed, nor what lies behind the lists' lengths.
func TestPartsAreNotChanged(t *testing.T) {
	for _, c := range calls() {
		s := holding(t, under(oddKeys(), 0))
		own := roomy(c.in)
		was := everything(own)
		if _, e := c.do(s, own); e != api.OK || !same(everything(own), was) {
			t.Errorf("%s: %d; the parts are %s", c.what, e, brief(own...))
		}
	}
}

// R3: what was handed in is not kept: changed afterwards, it changes neither the answer nor the store.
func TestPartsAreNotKept(t *testing.T) {
	for _, c := range calls() {
		s := holding(t, under(oddKeys(), 0))
		own := roomy(c.in)
		answer, e := c.do(s, own)
		was := copied(answer)
		unchanged(t, c.what, s, func() { spoil(own) })
		if e != api.OK || !same(answer, was) {
			t.Errorf("%s: %d; the parts were changed, and the answer is %s", c.what, e, brief(answer...))
		}
		for _, x := range heldIn(t, s, whole()) {
			if x.Key == "spoilt" || x.Key == "spare" {
				t.Errorf("%s: %s is held", c.what, quoted(x))
			}
		}
	}
}

// R3: an answer is new memory: changed afterwards, it changes neither the store, nor what was handed in, nor another answer.
func TestAnswersAreApart(t *testing.T) {
	for _, c := range calls() {
		s := holding(t, under(oddKeys(), 0))
		own := roomy(c.in)
		was := everything(own)
		first, _ := c.do(s, own)
		second, _ := c.do(s, own)
		kept := copied(second)
		unchanged(t, c.what, s, func() { spoil(first) })
		if !same(everything(own), was) || !same(second, kept) {
			t.Errorf("%s: an answer was changed, and something else with it", c.what)
		}
		if third, e := c.do(s, own); e != api.OK || !same(third, kept) {
			t.Errorf("%s: an answer was changed; asked again: %s, %d, want %s", c.what, brief(third...), e, brief(kept...))
		}
	}
}

// R3: no two lists of one answer share memory, their spare room either.
func TestListsOfAnswersAreApart(t *testing.T) {
	for _, c := range calls() {
		answer, _ := c.do(holding(t, under(oddKeys(), 0)), c.in)
		want := copied(answer)
		for i := range answer {
			l := answer[i].Entries
			l = l[:cap(l)]
			for j := range l {
				l[j] = entry("spoilt", -1, 0, "")
			}
			answer[i] = copied(want)[i]
			if !same(answer, want) {
				t.Errorf("%s: part %d was changed, and another one with it", c.what, i)
			}
		}
	}
}

// R3: what is done to the store since is not seen in an answer.
func TestAnswersStayAsTheyWere(t *testing.T) {
	for _, c := range calls() {
		s := holding(t, under(oddKeys(), 0))
		answer, _ := c.do(s, c.in)
		want := copied(answer)
		for _, key := range append(numbered(0, 20), oddKeys()...) {
			if _, e := s.Put(key, "later"); e != api.OK {
				t.Fatal(e)
			}
		}
		if !same(answer, want) {
			t.Errorf("%s: %s, it was %s", c.what, brief(answer...), brief(want...))
		}
	}
}

// R4: what a part's kind does not have is zero.
func TestOtherFieldsAreZero(t *testing.T) {
	for _, c := range calls() {
		answer, _ := c.do(holding(t, under(oddKeys(), 0)), c.in)
		for _, p := range answer {
			if p.Kind == api.PartPrint && len(p.Entries) > 0 || p.Kind != api.PartPrint && p.Tally != (api.Tally{}) {
				t.Errorf("%s: %s", c.what, brief(p))
			}
		}
	}
}

// R5: two stores that hold the same answer the same, however they came to hold it.
func TestOneAnswer(t *testing.T) {
	l := under(oddKeys(), 5)
	for _, c := range calls() {
		taken := holding(t, nil)
		for _, x := range slices.Backward(l) {
			taken.Take(entry(x.Key, 1, 0, "first"))
			taken.Take(x)
		}
		loaded := holding(t, l)
		one, _ := c.do(taken, c.in)
		two, _ := c.do(loaded, c.in)
		if !same(one, two) {
			t.Errorf("%s: %s and %s", c.what, brief(one...), brief(two...))
		}
		isAs(t, c.what, taken, loaded.Clock(), heldIn(t, loaded, whole()))
	}
}
