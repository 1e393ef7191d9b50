package match_test

import (
	"math/rand/v2"
	"slices"
	"testing"

	"tideline/api"
	"tideline/frame"
	"tideline/match"
	"tideline/merge"
	"tideline/span"
	"tideline/store"
	tallies "tideline/tally"
)

// mayBe asks that an answer that is no more than a frame's parts are parts that may be.
func mayBe(t *testing.T, l, answer []api.Part) {
	t.Helper()
	want := api.OK
	if len(answer) > mostParts {
		want = api.ErrMany
	}
	if e := frame.CheckParts(answer); e != want {
		t.Fatalf("to %s: %s: CheckParts: %d, want %d", brief(l...), brief(answer...), e, want)
	}
	f := api.Frame{From: 1, To: 2, Session: api.Name{Opener: 1, Life: 1, Number: 1}, Turn: 2, Parts: l}
	if _, e := frame.Answer(f, answer); e != want {
		t.Fatalf("to %s: %s: Answer: %d, want %d", brief(l...), brief(answer...), e, want)
	}
}

// P13.5: what All answers are parts that may be.
func TestAnswersMayBe(t *testing.T) {
	rnd := rand.New(rand.NewPCG(13, 5))
	for range 2000 {
		keys := [][]string{oddKeys(), numbered(0, 40), numbered(0, most)}[rnd.IntN(3)]
		s := holding(t, someMap(rnd, keys))
		l := someParts(rnd, keys)
		answer, _ := answered(t, s, 2+rnd.IntN(15), 1+rnd.IntN(32), l)
		mayBe(t, l, answer)
	}
}

// P13.5: also where a full store is asked for everything, range by range, and where each range has other entries.
func TestGreatAnswersMayBe(t *testing.T) {
	for _, n := range []int{1, 2, 16, 64, most} {
		var prints, asking, telling []api.Part
		for i, r := range lines(n, most/n) {
			prints = append(prints, print(r, tally(1, 1, 1)))
			asking = append(asking, items(r))
			telling = append(telling, items(r, under(numbered(i*most/n, most/n), i*40)...))
		}
		for _, l := range [][]api.Part{prints, asking, telling} {
			for _, held := range sampleMaps() {
				for _, branch := range []int{2, 16} {
					for _, leaf := range []int{1, 32} {
						answer, _ := answered(t, holding(t, held), branch, leaf, l)
						mayBe(t, l, answer)
					}
				}
			}
		}
	}
}

// P13.5: the Prints of one Compare tile its Range, and their Tallies joined are the store's; each is what Print tells of its Range.
func TestPrintsTile(t *testing.T) {
	split := 0
	for _, held := range sampleMaps() {
		s := holding(t, held)
		for _, r := range sampleRanges() {
			for branch := 2; branch <= 16; branch++ {
				for _, leaf := range []int{1, 2, 16, 32} {
					l := compared(t, s, branch, leaf, print(r, tally(1, 1, 1)))
					if l[0].Kind != api.PartPrint {
						continue
					}
					split++
					var ranges []api.Range
					var all api.Tally
					for _, p := range l {
						ranges = append(ranges, p.Range)
						all = tallies.Join(all, p.Tally)
						if own, e := match.Print(s, p.Range); !samePart(own, p) || e != api.OK {
							t.Fatalf("%d entries: %s, but Print: %s, %d", len(held), brief(p), brief(own), e)
						}
					}
					if own, _ := s.Fold(r); !span.Tile(ranges, r) || all != own {
						t.Fatalf("%d entries: %#v is split into %s; joined %v, want %v", len(held), r, quoted(ranges), all, own)
					}
				}
			}
		}
	}
	if split < 1000 {
		t.Errorf("only %d were split", split)
	}
}

// meet has a side send all that it holds in a range, and take the Reply; it tells what came of the entries at both, and what was replied.
func meet(t *testing.T, sender, other *store.Store, r api.Range) (atOther, atSender api.Heard, replied []api.Entry) {
	t.Helper()
	answer, atOther := exchanged(t, other, items(r, heldIn(t, sender, r)...))
	if len(answer) == 0 {
		return atOther, api.Heard{}, nil
	}
	if len(answer) != 1 || answer[0].Kind != api.PartReply || answer[0].Range != r {
		t.Fatalf("to Items of %#v: %s", r, brief(answer...))
	}
	more, atSender := exchanged(t, sender, answer[0])
	if len(more) > 0 {
		t.Fatalf("to a Reply: %s", brief(more...))
	}
	return atOther, atSender, answer[0].Entries
}

func newest(t *testing.T, a, b []api.Entry, r api.Range) []api.Entry {
	t.Helper()
	all, e := merge.Max(plainOf(a).in(r), plainOf(b).in(r))
	if e != api.OK {
		t.Fatal(e)
	}
	return all
}

// beside is what of l is not in r.
func beside(l []api.Entry, r api.Range) []api.Entry {
	return slices.DeleteFunc(slices.Clone(l), func(e api.Entry) bool { return has(r, e.Key) })
}

// bothNewest asks that two sides of which one sent Items of r, and took the Reply, hold the newest of both there, and beside it what they held.
func bothNewest(t *testing.T, a, b []api.Entry, r api.Range) {
	t.Helper()
	sender, other := holding(t, a), holding(t, b)
	atOther, atSender, replied := meet(t, sender, other, r)
	if atOther.Refused+atSender.Refused > 0 {
		t.Fatalf("%d and %d entries in %#v: refused", len(a), len(b), r)
	}
	want := newest(t, a, b, r)
	for _, x := range []struct {
		s   *store.Store
		was []api.Entry
	}{{sender, a}, {other, b}} {
		if got := heldIn(t, x.s, r); !slices.Equal(got, want) {
			t.Fatalf("%d and %d entries: in %#v is held %s, want %s", len(a), len(b), r, quoted(got), quoted(want))
		}
		if got := beside(heldIn(t, x.s, whole()), r); !slices.Equal(got, beside(x.was, r)) {
			t.Fatalf("%d and %d entries: beside %#v is held %s", len(a), len(b), r, quoted(got))
		}
	}
	lacked := plainLacks(plainOf(b).in(r), plainOf(a).in(r))
	if !slices.Equal(replied, lacked) || atSender.Taken != len(lacked) || atOther.Taken != len(plainLacks(plainOf(a).in(r), plainOf(b).in(r))) {
		t.Fatalf("%d and %d entries in %#v: taken %v and %v; replied %s, lacked %s", len(a), len(b), r, atOther, atSender, quoted(replied), quoted(lacked))
	}
	if l := compared(t, other, 2, 1, plainOf(heldIn(t, sender, whole())).print(r)); len(l) > 0 {
		t.Fatalf("%d and %d entries in %#v: they still differ: %s", len(a), len(b), r, brief(l...))
	}
}

// P13.5: two sides of which one sends Items of a range, and takes the Reply, hold the newest of both there.
func TestItemsAndReplyMeet(t *testing.T) {
	maps := [][]api.Entry{nil, {at("")}, {dead("m", 7, 3)}, abc(), under(oddKeys()[:9], 3), under(numbered(0, 40), 0), under(numbered(20, 40), 9), under(numbered(0, 100), 60)}
	for _, a := range maps {
		for _, b := range maps {
			for _, r := range sampleRanges() {
				bothNewest(t, a, b, r)
			}
		}
	}
	bothNewest(t, many(most), under(numbered(0, most), 100), whole())
	bothNewest(t, many(most), nil, whole())
	bothNewest(t, nil, many(most), whole())
}

// P13.5: all pairs of maps over three keys, with versions that differ in the Counter, in the Node alone, or not at all.
func TestAllSmallMapsMeet(t *testing.T) {
	small := [][]api.Entry{nil}
	for _, key := range []string{"", "a", "ab"} {
		for _, l := range small {
			for _, e := range list(entry(key, 2, 0, "x"), dead(key, 2, 1), entry(key, 3, 0, "")) {
				small = append(small, append(slices.Clone(l), e))
			}
		}
	}
	for _, a := range small {
		for _, b := range small {
			for _, r := range []api.Range{whole(), rng("", "ab"), from("a")} {
				bothNewest(t, a, b, r)
			}
		}
	}
}

// P13.5: any maps in which no two entries of one key and one version are unlike.
func TestAnyMapsMeet(t *testing.T) {
	rnd := rand.New(rand.NewPCG(13, 55))
	for range 1500 {
		keys := [][]string{oddKeys(), numbered(0, 40), numbered(0, most)}[rnd.IntN(3)]
		r := rng(keys[rnd.IntN(len(keys))], keys[rnd.IntN(len(keys))])
		if r.Lo >= r.Hi {
			r = from(r.Hi)
		}
		bothNewest(t, someMap(rnd, keys), someMap(rnd, keys), r)
	}
}

// P13.5: where entries are refused each side holds still all of the newest that it has room for, and nothing that is older than it was.
func TestFullSidesDoNotMeet(t *testing.T) {
	a, b := many(most), under(numbered(128, most), 300)
	sender, other := holding(t, a), holding(t, b)
	atOther, atSender, _ := meet(t, sender, other, whole())
	if atOther != (api.Heard{Refused: 128}) || atSender != (api.Heard{Taken: 128, Refused: 128}) {
		t.Errorf("%v, %v", atOther, atSender)
	}
	if want := slices.Concat(a[:128], b[:128]); !slices.Equal(heldIn(t, sender, whole()), want) || !slices.Equal(heldIn(t, other, whole()), b) {
		t.Errorf("%s, %s", quoted(heldIn(t, sender, whole())), quoted(heldIn(t, other, whole())))
	}
}
