package world_test

import (
	"maps"
	"math/rand/v2"
	"slices"
	"strconv"
	"testing"

	"tideline/api"
	"tideline/ghost"
	"tideline/mix"
	"tideline/wire"
	"tideline/world"
)

// newest is the newest of some maps: under each key the entry with the newest version; of one version that of the first map.
func newest(l ...[]api.Entry) []api.Entry {
	best := map[string]api.Entry{}
	for _, e := range slices.Concat(l...) {
		was := best[e.Key].Version
		if e.Version.Counter > was.Counter || e.Version.Counter == was.Counter && e.Version.Node > was.Node {
			best[e.Key] = e
		}
	}
	var all []api.Entry
	for _, key := range slices.Sorted(maps.Keys(best)) {
		all = append(all, best[key])
	}
	return all
}

// differ is under how many keys two maps differ.
func differ(a, b []api.Entry) int {
	versions := map[string]api.Version{}
	for _, e := range a {
		versions[e.Key] = e.Version
	}
	d := len(a)
	for _, e := range b {
		switch v, is := versions[e.Key]; {
		case !is:
			d++
		case v == e.Version:
			d--
		}
	}
	return d
}

// turns are as many as a session has at most: two more for each split, and four.
func turns(branch int) int {
	depth := 0
	for ranges := 1; ranges < most; ranges *= branch {
		depth++
	}
	return 2*depth + 4
}

// onlySession has node one open a session with its peer, and lets all its frames come, one by one: it is closed at both, no other map is another one, it costs what W6 says, and the judge has a verdict, which is the answer.
func onlySession(t *testing.T, w *world.World, c api.Config, one, peer int) api.Verdict {
	t.Helper()
	hasUnder(t, w)
	before := shoot(w)
	a, b := before.nodes[one].entries, before.nodes[peer].entries
	s := do(t, w, open(one, peer)).Session
	sent, moved, refused := 0, 0, 0
	for l := frames(t, w); len(l) == 1; l = frames(t, w) {
		if l[0].Session != s || l[0].Turn != sent {
			t.Fatalf("turn %d of %v: %s", sent, s, brief(l[0]))
		}
		for _, p := range l[0].Parts {
			moved += len(p.Entries)
		}
		sent++
		refused += do(t, w, deliver(0)).Heard.Refused
	}
	hasUnder(t, w)
	isClosedAtBoth(t, w, s, one, peer)
	d := differ(a, b)
	if moved > d*(c.Leaf+1) || sent > turns(c.Branch) || d == 0 && sent != 2 {
		t.Fatalf("%v, %s and %s, %d differ: %d frames, %d entries moved", c, quoted(a), quoted(b), d, sent, moved)
	}
	for n, was := range before.nodes {
		if n != one && n != peer && !look(w, n).is(was) {
			t.Fatalf("node %d: %s, want %s", n, quoted(look(w, n)), quoted(was))
		}
	}
	return judged(t, w, c, a, b, one, peer, refused)
}

func isClosedAtBoth(t *testing.T, w *world.World, s api.Name, one, peer int) {
	t.Helper()
	for _, n := range []int{one, peer} {
		if !isClosed(t, w, n, s) {
			t.Fatalf("%v at node %d: %v", s, n, do(t, w, talks(n)).Talks)
		}
	}
}

// judged is the verdict of a session that is closed at both; it is not none. Where there are no twins, and nothing was refused, both maps are the newest of both.
func judged(t *testing.T, w *world.World, c api.Config, a, b []api.Entry, one, peer, refused int) api.Verdict {
	t.Helper()
	x, y := w.Map(one), w.Map(peer)
	v, e := ghost.Judge(a, b, x, y, c, refused)
	if e != api.OK || v.Kind == api.VerdictNone {
		t.Fatalf("%v, %s and %s became %s and %s: %v, %d", c, quoted(a), quoted(b), quoted(x), quoted(y), v, e)
	}
	want := newest(a, b)
	met := slices.Equal(x, want) && slices.Equal(y, want)
	if met != (v.Kind == api.VerdictMet) {
		t.Fatalf("%v, %s and %s became %s and %s: %v", c, quoted(a), quoted(b), quoted(x), quoted(y), v)
	}
	return v
}

// writes has a node write under these keys; every third one is deleted.
func writes(t *testing.T, w *world.World, n int, keys ...string) {
	t.Helper()
	for i, key := range keys {
		if i%3 == 2 {
			all(t, w, remove(n, key))
		} else {
			all(t, w, put(n, key, "v"+strconv.Itoa(i)))
		}
	}
}

// P20.8, W5, W6: the first session between maps of all sorts: of nothing, of one key, alike ones, such as differ in one key, in many, in all.
func TestSessionsOfSamples(t *testing.T) {
	samples := [][]api.Entry{nil, {entry("", 1, 1, "")}, {dead("m", 7, 3)}, {entry(highest, greatest, 7, longValue)}, under(oddKeys()), versioned(oddKeys(), 3), many(33), many(most - 1), many(most), versioned(numbered(0, most), 9), versioned(numbered(100, most), 400), versioned(numbered(most, most), 0)}
	verdicts := map[int]int{}
	for _, c := range []api.Config{plainConfig(), config(16, 1, 3, 1), config(2, 32, 3, 1), config(16, 32, 3, 1), config(5, 3, 3, 1)} {
		for i, a := range samples {
			for _, b := range samples[:i+1] {
				w := fed(t, c, a, b)
				verdicts[onlySession(t, w, c, i%2, 1-i%2).Kind]++
				verdicts[onlySession(t, w, c, 0, 1).Kind]++
			}
		}
	}
	if verdicts[1] < 400 || verdicts[3] < 40 {
		t.Errorf("verdicts: %v", verdicts)
	}
}

// P20.8, W5, W6: maps that are alike but for one key, for a few, wherever they are; written by the nodes alone.
func TestSessionsOfFewKeys(t *testing.T) {
	for _, c := range []api.Config{plainConfig(), config(3, 2, 3, 1), config(16, 32, 3, 1)} {
		for _, n := range []int{1, 2, 3, 16, 100, most} {
			w := made(t, 3, c)
			keys := numbered(0, n)
			writes(t, w, 0, keys...)
			if v := onlySession(t, w, c, 1, 0); v.Kind != api.VerdictMet {
				t.Fatalf("%d keys: %v", n, v)
			}
			for i := 0; i < n; i += 1 + n/20 {
				writes(t, w, i%2, keys[i])
				if v := onlySession(t, w, c, i/2%2, 1-i/2%2); v.Kind != api.VerdictMet {
					t.Fatalf("%d keys, the %d-th one: %v", n, i, v)
				}
				writes(t, w, 1, keys[i], keys[n-1], keys[n/2])
				writes(t, w, 0, keys[n/3])
				if v := onlySession(t, w, c, 0, 1); v.Kind != api.VerdictMet {
					t.Fatalf("%d keys, the %d-th one and more: %v", n, i, v)
				}
			}
			if x, y := w.Map(0), w.Map(1); !slices.Equal(x, y) || len(x) != n || len(w.Map(2)) != 0 {
				t.Fatalf("%s and %s", quoted(x), quoted(y))
			}
		}
	}
}

// W6: between equal maps a session is one frame, and the closing one, and no entry moves.
func TestEqualMaps(t *testing.T) {
	for _, l := range [][]api.Entry{nil, under(oddKeys()), many(most)} {
		for _, c := range sampleConfigs() {
			w := fed(t, c, l, l)
			before := [2]api.Counters{counters(t, w, 0), counters(t, w, 1)}
			all(t, w, open(0, 1))
			isCalm(t, w, 2)
			for n := range 2 {
				before[n].Sent++
				before[n].Heard++
				before[n].Closed++
				if k := counters(t, w, n); k != before[n] {
					t.Errorf("%d entries, %v: %+v, want %+v", len(l), c, k, before[n])
				}
			}
		}
	}
}

// P20.8, W5: where entries are refused the verdict says so; what there was room for was taken, by rising keys.
func TestFullSession(t *testing.T) {
	w := made(t, 2, plainConfig())
	writes(t, w, 1, numbered(0, most-1)...)
	writes(t, w, 0, "a", "b")
	if v := onlySession(t, w, plainConfig(), 0, 1); v.Kind != api.VerdictFull {
		t.Errorf("%v", v)
	}
	if l := held(w, 1); len(l) != most || l[0] != "a" || slices.Contains(l, "b") {
		t.Errorf("%q", l)
	}
	refuses(t, w, put(1, "b", ""), api.ErrFull)
	all(t, w, remove(0, "a"))
	if v := onlySession(t, w, plainConfig(), 1, 0); v.Kind != api.VerdictFull {
		t.Errorf("%v", v)
	}
	if l := w.Map(1); len(l) != most || !l[0].Dead {
		t.Errorf("%s", quoted(l))
	}
}

// P20.8, W5: two nodes that wrote unlike keys of one tally: they do not meet, and the judge tells over which range.
func TestWrittenTwins(t *testing.T) {
	l := writtenTwins()
	for i, x := range l {
		one, other := mix.Of(x[0], api.Version{Counter: i + 1, Node: 0}), mix.Of(x[1], api.Version{Counter: i + 1, Node: 1})
		if one != other {
			t.Fatalf("%d: %x and %x", i, one, other)
		}
	}
	for n := 1; n <= len(l); n++ {
		for _, opener := range []int{0, 1} {
			w := made(t, 2, plainConfig())
			for _, x := range l[:n] {
				all(t, w, put(0, x[0], ""), put(1, x[1], ""))
			}
			if v := onlySession(t, w, plainConfig(), opener, 1-opener); v != (api.Verdict{Kind: api.VerdictTwins, Range: whole()}) {
				t.Errorf("%d: %v", n, v)
			}
			if x, y := w.Map(0), w.Map(1); len(x) != n || slices.Equal(x, y) {
				t.Errorf("%s and %s", quoted(x), quoted(y))
			}
			// Whatever is written besides has the ranges split.
			for i := range 3 {
				all(t, w, put(0, "k"+strconv.Itoa(i), ""), put(1, "l"+strconv.Itoa(i), ""))
				if v := onlySession(t, w, plainConfig(), opener, 1-opener); v.Kind == api.VerdictFull {
					t.Errorf("%d: %v", n, v)
				}
			}
		}
	}
}

// P20.8, W5: twins in a part of the range, beside keys that differ, which are sent all the same.
func TestTwinsInAPart(t *testing.T) {
	w := made(t, 2, plainConfig())
	x := writtenTwins()[0]
	all(t, w, put(0, x[0], ""), put(1, x[1], ""), put(0, "a", ""), put(0, "b", ""), put(1, "c", ""), put(1, "d", ""))
	v := onlySession(t, w, plainConfig(), 0, 1)
	if v.Kind != api.VerdictTwins || v.Range == whole() || v.Range.Lo > x[1] || !v.Range.Open && v.Range.Hi <= x[0] {
		t.Errorf("%s", quoted(v))
	}
	for n := range 2 {
		if l := held(w, n); !slices.Equal(l, []string{x[n], "a", "b", "c", "d"}) {
			t.Errorf("node %d: %q", n, l)
		}
	}
}

// P20.8: worlds in which all sorts of things were done, but no bytes from outside: whoever opens a session then comes to its end, and the judge has a verdict.
func TestSessionsBehindAnything(t *testing.T) {
	verdicts := map[int]int{}
	for seed := range uint64(24) {
		rnd := rand.New(rand.NewPCG(seed, 208))
		nodes := 2 + int(seed)%7
		c := sampleConfigs()[int(seed)%len(sampleConfigs())]
		w := made(t, nodes, c)
		keys := [][]string{oddKeys(), numbered(0, 60), numbered(0, most+20)}[seed%3]
		for n := range nodes {
			// Where there are many keys, no node has room for what another one holds besides.
			if few := len(keys) - most; few > 0 && n < 2 {
				writes(t, w, n, keys[n*few:n*few+most-2]...)
			}
		}
		for range 25 {
			for range rnd.IntN(60) {
				if o := someOp(rnd, nodes, keys); o.Kind != api.OpRaw {
					w.Do(o)
				}
			}
			calm(t, w)
			one := rnd.IntN(nodes)
			peer := (one + 1 + rnd.IntN(nodes-1)) % nodes
			if mayOpen(t, w, one, peer) {
				verdicts[onlySession(t, w, c, one, peer).Kind]++
			}
		}
	}
	if verdicts[1] < 150 || verdicts[3] < 20 {
		t.Errorf("verdicts: %v", verdicts)
	}
}

// mayOpen says whether both nodes are up, and both have room.
func mayOpen(t *testing.T, w *world.World, one, peer int) bool {
	t.Helper()
	return look(w, one).up && look(w, peer).up && hasRoom(t, w, one) && hasRoom(t, w, peer)
}

func hasRoom(t *testing.T, w *world.World, n int) bool {
	t.Helper()
	l := do(t, w, talks(n)).Talks
	return len(l) < mostTalks || slices.ContainsFunc(l, func(x api.Talk) bool { return x.Over })
}

// P20.8: a peer with as many sessions as it may have, of which one is closed, or none.
func TestPeerWithManySessions(t *testing.T) {
	for closed := range 2 {
		w := made(t, 2, plainConfig())
		writes(t, w, 0, "a")
		for range closed {
			onlySession(t, w, plainConfig(), 0, 1)
		}
		writes(t, w, 1, "b")
		for range mostTalks - closed {
			all(t, w, open(1, 0), drop(0))
		}
		if closed == 1 {
			if v := onlySession(t, w, plainConfig(), 0, 1); v.Kind != api.VerdictMet {
				t.Errorf("%v", v)
			}
			continue
		}
		s := meet(t, w, 0, 1)
		if x, is := talk(t, w, 0, s); !is || x.Over || x.Turn != 0 {
			t.Errorf("%v", x)
		}
	}
}

// P20.8: the closing frame comes by Calm of MaxTurn + 1 rounds; no map but the two has changed.
func TestCalmCloses(t *testing.T) {
	for _, c := range sampleConfigs() {
		w := made(t, 4, c)
		for n := range 4 {
			writes(t, w, n, keysFrom(strconv.Itoa(n), 0, 60)...)
		}
		a, b := w.Map(3), w.Map(1)
		want := [][]api.Entry{w.Map(0), newest(a, b), w.Map(2), newest(a, b)}
		s := meet(t, w, 3, 1)
		isClosedAtBoth(t, w, s, 3, 1)
		for n := range 4 {
			isMap(t, w, n, want[n])
		}
	}
}

// W5: several sessions at once, between all of a world's nodes: all come to be closed, and no map moves back.
func TestSessionsAtOnce(t *testing.T) {
	for nodes := 2; nodes <= mostNodes; nodes++ {
		w := made(t, nodes, plainConfig())
		var maps [][]api.Entry
		for n := range nodes {
			writes(t, w, n, keysFrom(string(rune('a'+n%3)), n, 20)...)
			maps = append(maps, w.Map(n))
		}
		var names []api.Name
		for one := range nodes {
			for peer := range nodes {
				if one != peer {
					names = append(names, do(t, w, open(one, peer)).Session)
				}
			}
		}
		calm(t, w)
		s := sight{}
		for n := range nodes {
			l := do(t, w, talks(n)).Talks
			if len(l) != 2*(nodes-1) || slices.ContainsFunc(l, func(x api.Talk) bool { return !x.Over }) {
				t.Fatalf("node %d: %v", n, l)
			}
			for _, e := range maps[n] {
				if s[n] == nil {
					s[n] = map[string]api.Version{}
				}
				s[n][e.Key] = e.Version
			}
		}
		s.movesUp(t, bag(), w)
		// Each node met each other one directly: none has less than the newest of all.
		for n := range nodes {
			isMap(t, w, n, newest(maps...))
		}
		if len(names) != nodes*(nodes-1) {
			t.Fatal(names)
		}
	}
}

// W9: nodes that reconcile each with the next one, up to the last and back down to the first: all hold the newest of all.
func TestAllOfThem(t *testing.T) {
	for nodes := 2; nodes <= mostNodes; nodes++ {
		for _, c := range []api.Config{plainConfig(), config(16, 32, 1, 0), config(3, 4, 2, 2)} {
			w := made(t, nodes, c)
			var maps [][]api.Entry
			for n := range nodes {
				writes(t, w, n, keysFrom("k", 7*n, 25)...)
				writes(t, w, n, keysFrom(strconv.Itoa(n), 0, n)...)
				maps = append(maps, w.Map(n))
			}
			for n := range nodes - 1 {
				metBy(t, w, c, n, n+1)
			}
			for n := nodes - 1; n > 0; n-- {
				metBy(t, w, c, n-n%2, n-1+n%2)
			}
			for n := range nodes {
				isMap(t, w, n, newest(maps...))
			}
		}
	}
}

func metBy(t *testing.T, w *world.World, c api.Config, one, peer int) {
	t.Helper()
	if v := onlySession(t, w, c, one, peer); v.Kind != api.VerdictMet {
		t.Fatalf("%d and %d: %v", one, peer, v)
	}
}

// W4: of each frame of a session all beginnings, and all changes of one byte: what answers ErrFrame or ErrStale changes no map and no session.
func TestBrokenFrames(t *testing.T) {
	w := made(t, 3, plainConfig())
	writes(t, w, 0, "a", "b", "c", "d")
	writes(t, w, 1, "c", "e")
	all(t, w, open(0, 1))
	came := map[api.Errno]int{}
	for l := packets(t, w); len(l) > 0; l = packets(t, w) {
		data := l[0].Data
		for at := range data {
			comesBroken(t, w, l[0].To, string(data[:at]), api.ErrFrame, came)
			changed := slices.Clone(data)
			changed[at] ^= 0x80
			if _, e := wire.Decode(changed); e != api.OK {
				comesBroken(t, w, l[0].To, string(changed), api.ErrFrame, came)
			}
		}
		comesBroken(t, w, l[0].To, string(data)+"\x00", api.ErrFrame, came)
		for _, n := range []int{l[0].From, 2} {
			comesBroken(t, w, n, string(data), api.ErrStale, came)
		}
		all(t, w, deliver(0))
	}
	if came[api.ErrFrame] < 300 || came[api.ErrStale] < 5 {
		t.Errorf("%v", came)
	}
}

// comesBroken has bytes come that must be refused so, and by which nothing but counters is another one.
func comesBroken(t *testing.T, w *world.World, to int, data string, want api.Errno, came map[api.Errno]int) {
	t.Helper()
	before := shoot(w)
	errs(t, w, raw(to, data), want)
	now := shoot(w)
	sameMapsAndTalks(t, raw(to, data), before, now)
	if !slices.EqualFunc(now.under, before.under, samePackets) {
		t.Fatalf("%v, want %v", now.under, before.under)
	}
	came[want]++
}
