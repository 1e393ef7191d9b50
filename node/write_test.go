package node_test

import (
	"iter"
	"slices"
	"testing"

	"tideline/api"
	"tideline/node"
	"tideline/tally"
)

// keys are some that may be, held or not, and some that may not.
func keys() []string {
	return append(oddKeys(), append(numbered(0, 4), "m", "nobody's", tooLongKey, tooLongKey+tooLongKey)...)
}

// ranges are some that may be, empty ones too, and some that may not.
func ranges() []api.Range {
	return []api.Range{
		whole(), {}, rng("", "a"), rng("a", "b"), rng("a", "a"), rng("a", "aa"), rng("b", "k\x01"), rng("", highest), rng(highest, highest),
		from("a"), from("k"), from(highest), rng("k\x00\x01", "k\x00\x03"), rng(longKey, "z"), rng("", tooLongKey),
		rng("b", "a"), rng("a", ""), {Lo: "a", Hi: "b", Open: true}, {Hi: "b", Open: true}, rng(tooLongKey, "z"), from(tooLongKey), rng(tooLongKey, "a"),
	}
}

// P17.2: what is put, deleted, got, scanned and folded is what the store's calls say, of nodes with no entry, with one, with some, with as many as there may be, of each id, in several lives.
func TestCallsOfTheStore(t *testing.T) {
	for i, l := range sampleMaps() {
		p := fedPair(t, i, plainConfig(), l)
		for range 2 {
			for j, key := range keys() {
				p.reads(t, key, ranges()[j%len(ranges())])
				p.put(t, key, []string{"", "v", longValue, tooLongValue}[j%4])
				p.reads(t, key, whole())
				if j%3 == 0 {
					p.remove(t, key)
					p.remove(t, key)
				}
			}
			for _, r := range ranges() {
				p.reads(t, "a", r)
			}
			p.crash(t)
			p.start(t)
		}
	}
}

// P17.2, W1: versions rise by one, whatever is written, and go on behind a crash; deleting what nobody wrote counts as writing.
func TestVersionsRise(t *testing.T) {
	for id := range 8 {
		n := made(t, id, plainConfig())
		for i := range 60 {
			var v api.Version
			var e api.Errno
			key := numbered(i*7%10, 1)[0]
			if i%4 == 3 {
				v, e = n.Delete(key)
			} else {
				v, e = n.Put(key, "v")
			}
			if v != (api.Version{Counter: i + 1, Node: id}) || e != api.OK {
				t.Fatal(i, v, e)
			}
			if x, found, e := n.Get(key); !found || e != api.OK || x.Version != v || x.Dead != (i%4 == 3) {
				t.Fatal(i, x, found, e)
			}
			if i%11 == 10 {
				restart(t, n)
			}
		}
	}
}

// asksForErrors has the errors of Put and Delete be told, each with nothing else changed.
func asksForErrors(t *testing.T, n *node.Node, key, value string, ofPut, ofDelete api.Errno) {
	t.Helper()
	changes(t, "Put", n, api.Counters{}, func() {
		if v, e := n.Put(key, value); v != (api.Version{}) || e != ofPut {
			t.Errorf("Put(%q, %q): %v, %d, want %d", key, value, v, e, ofPut)
		}
	})
	changes(t, "Delete", n, api.Counters{}, func() {
		if v, e := n.Delete(key); v != (api.Version{}) || e != ofDelete {
			t.Errorf("Delete(%q): %v, %d, want %d", key, v, e, ofDelete)
		}
	})
}

// P17.2, W1: the errors of Put and Delete, one by one and several at once: ErrDown ahead of ErrKey, that ahead of ErrValue, ErrFull, ErrWorn; nothing is changed by them.
func TestWriteErrors(t *testing.T) {
	full := append(many(most-1), entry("z", greatest, 7, "last"))
	n := holding(t, 3, plainConfig(), full)
	asksForErrors(t, n, tooLongKey, tooLongValue, api.ErrKey, api.ErrKey)
	asksForErrors(t, n, tooLongKey, "", api.ErrKey, api.ErrKey)
	asksForErrors(t, n, "new", tooLongValue, api.ErrValue, api.ErrFull)
	asksForErrors(t, n, "new", longValue, api.ErrFull, api.ErrFull)
	asksForErrors(t, n, "z", tooLongValue, api.ErrValue, api.ErrWorn)
	asksForErrors(t, n, "z", "", api.ErrWorn, api.ErrWorn)
	n.Crash()
	for _, key := range []string{tooLongKey, "new", "z", ""} {
		for _, value := range []string{"", tooLongValue} {
			asksForErrors(t, n, key, value, api.ErrDown, api.ErrDown)
		}
	}
}

// P17.2, W1: with MaxItems keys held, dead ones too, those that are held are still written; behind a crash it is so, too.
func TestFullNode(t *testing.T) {
	n := made(t, 0, plainConfig())
	all := numbered(0, most)
	writes(t, n, all...)
	for life := 1; life <= 3; life++ {
		asksForErrors(t, n, "another", "", api.ErrFull, api.ErrFull)
		asksForErrors(t, n, "", "", api.ErrFull, api.ErrFull)
		for i, key := range []string{all[0], all[2], all[most-1]} {
			want := api.Version{Counter: most + (life-1)*6 + 2*i + 1}
			if v, e := n.Put(key, "once more"); v != want || e != api.OK {
				t.Fatal(life, i, v, e)
			}
			want.Counter++
			if v, e := n.Delete(key); v != want || e != api.OK {
				t.Fatal(life, i, v, e)
			}
		}
		restart(t, n)
	}
}

// P17.2: the last Counter is written, then ErrWorn for good, through all lives; entries are still taken.
func TestWornClock(t *testing.T) {
	n := holding(t, 3, plainConfig(), list(entry("a", greatest-1, 5, "")))
	if v, e := n.Put("b", "last"); v != (api.Version{Counter: greatest, Node: 3}) || e != api.OK {
		t.Fatal(v, e)
	}
	for range 3 {
		asksForErrors(t, n, "b", "", api.ErrWorn, api.ErrWorn)
		asksForErrors(t, n, "c", "", api.ErrWorn, api.ErrWorn)
		restart(t, n)
	}
	feed(t, n, list(entry("b", greatest, 4, "newer"), at("c")))
	want := list(entry("a", greatest-1, 5, ""), entry("b", greatest, 4, "newer"), at("c"))
	if l := n.Map(); !slices.Equal(l, want) {
		t.Error(quoted(l))
	}
}

// P17.2: what was taken lets the clock rise: what is written behind that is newer than all that is held.
func TestWritesAreNewer(t *testing.T) {
	n := made(t, 0, plainConfig())
	for i, counter := range []int{5, 3, 900, 899, 1 << 39} {
		feed(t, n, list(entry(numbered(i, 1)[0], counter, 7, "")))
		if i%2 == 0 {
			restart(t, n)
		}
		highest := 0
		for _, x := range n.Map() {
			highest = max(highest, x.Version.Counter)
		}
		if v, e := n.Put("own", ""); v != (api.Version{Counter: highest + 1}) || e != api.OK {
			t.Fatal(i, v, e)
		}
	}
}

// P17.2: Get, Scan and Fold, with the errors of the store's, and ErrDown ahead of them; none of them changes anything but Joins.
func TestReadErrors(t *testing.T) {
	n := holding(t, 3, plainConfig(), many(9))
	reads := func(key string, r api.Range, ofKey, ofRange api.Errno) {
		t.Helper()
		changes(t, "reading", n, api.Counters{}, func() {
			if x, found, e := n.Get(key); x != (api.Entry{}) || found || e != ofKey {
				t.Errorf("Get(%q): %v, %v, %d", key, x, found, e)
			}
			if l, e := n.Scan(r); l != nil || e != ofRange {
				t.Errorf("Scan(%s): %v, %d", quoted(r), l != nil, e)
			}
			if sum, e := n.Fold(r); sum != (api.Tally{}) || e != ofRange {
				t.Errorf("Fold(%s): %v, %d", quoted(r), sum, e)
			}
		})
	}
	reads(tooLongKey, rng("b", "a"), api.ErrKey, api.ErrRange)
	reads("nobody's", rng(tooLongKey, "a"), api.OK, api.ErrKey)
	reads("", rng("a", tooLongKey), api.OK, api.ErrKey)
	reads(tooLongKey, api.Range{Hi: "b", Open: true}, api.ErrKey, api.ErrRange)
	n.Crash()
	for _, r := range ranges() {
		for _, key := range keys() {
			reads(key, r, api.ErrDown, api.ErrDown)
		}
	}
}

// P17.2: Get tells dead entries, too; Scan leaves them out, and Fold counts them.
func TestDeadEntries(t *testing.T) {
	l := list(dead("a", 3, 1), entry("b", 2, 2, "b"), dead("c", 9, 0))
	n := holding(t, 3, plainConfig(), l)
	for _, want := range l {
		if x, found, e := n.Get(want.Key); x != want || !found || e != api.OK {
			t.Error(x, found, e)
		}
	}
	if living, e := n.Scan(whole()); e != api.OK || !slices.Equal(slices.Collect(living), l[1:2]) {
		t.Error(e)
	}
	if sum, e := n.Fold(whole()); sum != tally.All(l) || e != api.OK {
		t.Error(sum, e)
	}
	if sum, e := n.Fold(rng("a", "b")); sum != tally.Of(l[0]) || e != api.OK {
		t.Error(sum, e)
	}
}

// scanned is the iterator of a Scan, and what it must go through.
type scanned struct {
	l    iter.Seq[api.Entry]
	want []api.Entry
}

func scan(t *testing.T, n *node.Node, r api.Range) scanned {
	t.Helper()
	l, e := n.Scan(r)
	if e != api.OK || l == nil {
		t.Fatal(e)
	}
	want := slices.DeleteFunc(n.Map(), func(x api.Entry) bool {
		return x.Dead || x.Key < r.Lo || !r.Open && x.Key >= r.Hi
	})
	return scanned{l, want}
}

// goesThrough asks that the iterator goes through that, more than once, left early, and within itself.
func (s scanned) goesThrough(t *testing.T, what string) {
	t.Helper()
	for range 2 {
		if l := slices.Collect(s.l); !slices.Equal(l, s.want) {
			t.Fatalf("%s: %s, want %s", what, quoted(l), quoted(s.want))
		}
	}
	for stop := range min(len(s.want), 5) {
		i := 0
		for x := range s.l {
			if x != s.want[i] {
				t.Fatalf("%s, left early: %v", what, x)
			}
			if i == stop {
				break
			}
			i++
		}
	}
	outer := 0
	for x := range s.l {
		if inner := slices.Collect(s.l); x != s.want[outer] || !slices.Equal(inner, s.want) {
			t.Fatalf("%s, within itself: %v, %s", what, x, quoted(inner))
		}
		if outer++; outer == 3 {
			break
		}
	}
}

// R6: Scan's iterator goes through what there was when the call was made, behind a Put, a Delete, entries that were taken, a Crash, a Start, and what was written in the next life.
func TestScanIsKept(t *testing.T) {
	for _, held := range append(sampleMaps(), many(40)) {
		n := holding(t, 3, plainConfig(), held)
		var kept []scanned
		keep := func() {
			for _, r := range []api.Range{whole(), from("a"), rng("", "b"), rng("b", "b"), rng("k\x00\x01", "k\x00\x09")} {
				kept = append(kept, scan(t, n, r))
			}
		}
		for _, step := range []struct {
			what string
			do   func()
		}{
			{"at once", func() {}},
			{"behind a Put", func() { n.Put("m", "put"); n.Put(numbered(3, 1)[0], "put") }},
			{"behind a Delete", func() { n.Delete("m"); n.Delete(numbered(4, 1)[0]) }},
			{"behind entries that were taken", func() { feed(t, n, under(numbered(0, 9), greatest/2)) }},
			{"behind a Crash", func() { n.Crash() }},
			{"behind a Start", func() { n.Start() }},
			{"behind a Put in the next life", func() { n.Put("m", "later"); n.Put(numbered(5, 1)[0], "later") }},
			{"behind another Crash", func() { n.Crash() }},
		} {
			step.do()
			if n.Up() {
				keep()
			}
			for _, s := range kept {
				s.goesThrough(t, step.what)
			}
		}
	}
}

// R6: an iterator may be ranged over while the node that it is of is written to, crashes and starts.
func TestScanWhileItChanges(t *testing.T) {
	n := holding(t, 3, plainConfig(), many(30))
	s := scan(t, n, whole())
	i := 0
	for x := range s.l {
		if x != s.want[i] {
			t.Fatal(i, x)
		}
		i++
		n.Delete(x.Key)
		n.Put("new"+x.Key, "")
		if i%3 == 0 {
			restart(t, n)
		}
	}
	if i != len(s.want) || i == 0 {
		t.Error(i)
	}
}
