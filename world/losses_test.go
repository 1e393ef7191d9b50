package world_test

import (
	"math/rand/v2"
	"slices"
	"strconv"
	"testing"

	"tideline/api"
	"tideline/world"
)

// mapsFor are pairs of maps of two nodes: alike, and such as differ in one key, in many, in all, or have no room.
func mapsFor() [][2][]api.Entry {
	odd := under(oddKeys())
	return [][2][]api.Entry{
		{nil, nil},
		{odd, odd},
		{odd, nil},
		{nil, many(40)},
		{odd, append(list(odd[0], entry(odd[1].Key, 99, 3, "newer")), odd[2:]...)},
		{many(100), versioned(numbered(50, 100), 60)},
		{many(most), versioned(numbered(0, most), 3)},
		{many(most), versioned(numbered(200, most), 400)},
	}
}

// noise does one thing of those that befall a session's frames: they come, in whatever order, are lost, doubled, sent again.
func noise(rnd *rand.Rand, w *world.World, one, peer int) api.Op {
	a, _ := w.Do(bag())
	i := rnd.IntN(len(a.Packets) + 1)
	switch rnd.IntN(10) {
	case 0, 1:
		return tick(one)
	case 2, 3:
		return tick(peer)
	case 4:
		return drop(i)
	case 5:
		return double(i)
	}
	return deliver(i)
}

// W7: a session whose frames are lost, doubled, held up, overtaken and sent again, and which is closed at both, leaves what it leaves where every frame comes once.
func TestLosses(t *testing.T) {
	closed, lost := 0, 0
	for seed := range uint64(400) {
		rnd := rand.New(rand.NewPCG(seed, 307))
		maps := mapsFor()[seed%8]
		c := []api.Config{config(2, 1, 3, 20), config(3, 4, 1, 3), config(16, 1, 2, 20), config(2, 32, 5, 1)}[seed/8%4]
		w, plain := fed(t, c, maps[0], maps[1]), fed(t, c, maps[0], maps[1])
		meet(t, plain, 0, 1)
		s := do(t, w, open(0, 1)).Session
		for range 400 {
			w.Do(noise(rnd, w, 0, 1))
		}
		for range c.Wait * (c.Tries + 1) {
			w.Do(tick(rnd.IntN(2)))
		}
		if !isClosed(t, w, 0, s) || !isClosed(t, w, 1, s) {
			lost++
			continue
		}
		closed++
		for range 2 {
			for n := range 2 {
				if !slices.Equal(w.Map(n), plain.Map(n)) {
					t.Fatalf("seed %d, node %d: %s, want %s", seed, n, quoted(w.Map(n)), quoted(plain.Map(n)))
				}
			}
			// What is still under way changes nothing.
			calm(t, w)
		}
	}
	if closed < 200 || lost < 5 {
		t.Errorf("%d were closed, %d lost", closed, lost)
	}
}

// W7: each frame of a session lost once: it goes out again by a tick, or as the one ahead of it does.
func TestEachFrameLost(t *testing.T) {
	for _, maps := range mapsFor() {
		plain := fed(t, plainConfig(), maps[0], maps[1])
		all(t, plain, open(0, 1))
		frames := calmed(t, plain)
		for lost := range frames {
			w := fed(t, plainConfig(), maps[0], maps[1])
			s := do(t, w, open(0, 1)).Session
			for range lost {
				all(t, w, deliver(0))
			}
			all(t, w, drop(0))
			hasUnder(t, w)
			for range 3 {
				all(t, w, tick(0), tick(1))
			}
			if len(packets(t, w)) == 0 {
				t.Fatalf("frame %d was lost, and nothing goes out again", lost)
			}
			calm(t, w)
			isClosedAtBoth(t, w, s, 0, 1)
			for n := range 2 {
				isMap(t, w, n, plain.Map(n))
			}
		}
	}
}

// W7: each frame of a session held up until all others have come, and doubled.
func TestEachFrameHeldUp(t *testing.T) {
	for _, maps := range mapsFor() {
		plain := fed(t, plainConfig(), maps[0], maps[1])
		all(t, plain, open(0, 1))
		frames := calmed(t, plain)
		for late := range frames {
			w := fed(t, plainConfig(), maps[0], maps[1])
			s := do(t, w, open(0, 1)).Session
			for range late {
				all(t, w, deliver(0))
			}
			// The one frame comes now, its double behind all that it brings forth.
			all(t, w, double(0), deliver(0))
			for len(packets(t, w)) > 1 {
				w.Do(deliver(1))
			}
			isClosedAtBoth(t, w, s, 0, 1)
			calm(t, w)
			isClosedAtBoth(t, w, s, 0, 1)
			for n := range 2 {
				isMap(t, w, n, plain.Map(n))
			}
		}
	}
}

// mid is a world of three nodes in which a session of node 0 with node 1 has come so far that so many frames came; saw are the bytes of all its frames up to then, those under way with them.
func mid(t *testing.T, came int) (w *world.World, s api.Name, saw []api.Packet) {
	t.Helper()
	w = made(t, 3, plainConfig())
	writes(t, w, 0, "a", "b", "c", "d", "e", "f")
	writes(t, w, 1, "c", "g", "h")
	s = do(t, w, open(0, 1)).Session
	saw = packets(t, w)
	for range came {
		all(t, w, deliver(0))
		saw = append(saw, packets(t, w)...)
	}
	return w, s, saw
}

// sessionFrames is how many frames that session has.
func sessionFrames(t *testing.T) int {
	t.Helper()
	w, _, _ := mid(t, 0)
	return calmed(t, w)
}

// W8: behind a crash, wherever in a session it comes, a node's map is what it was, and its clock; frames of that session are stale there, but for the one that begins it anew; its later sessions meet.
func TestCrashes(t *testing.T) {
	for crashed := range 2 {
		for came := range sessionFrames(t) + 1 {
			w, s, saw := mid(t, came)
			before := w.Map(crashed)
			all(t, w, crash(crashed))
			isMap(t, w, crashed, before)
			all(t, w, start(crashed))
			isMap(t, w, crashed, before)
			tells(t, w, talks(crashed), api.Answer{})
			for len(packets(t, w)) > 0 {
				all(t, w, drop(0))
			}
			for _, p := range slices.Backward(saw) {
				if p.To != crashed {
					continue
				}
				if _, e := w.Do(raw(crashed, string(p.Data))); e != api.ErrStale && p.Num > 1 || e != api.OK && p.Num == 1 {
					t.Fatalf("node %d, %d came: packet %d: %d", crashed, came, p.Num, e)
				}
			}
			if x, is := talk(t, w, crashed, s); crashed == 0 && is || crashed == 1 && (!is || x.Turn != 1) {
				t.Fatalf("node %d, %d came: %v", crashed, came, x)
			}
			isMap(t, w, crashed, before)
			for len(packets(t, w)) > 0 {
				all(t, w, drop(0))
			}
			isGivenUpOrClosed(t, w, s)
			want := newest(w.Map(0), w.Map(1))
			metBy(t, w, plainConfig(), crashed, 1-crashed)
			metBy(t, w, plainConfig(), 1-crashed, crashed)
			isMap(t, w, 0, want)
			isMap(t, w, 1, want)
			v := do(t, w, put(crashed, "z", "")).Version
			for _, e := range want {
				if v.Counter <= e.Version.Counter {
					t.Errorf("%v behind %s", v, quoted(e))
				}
			}
		}
	}
}

// isGivenUpOrClosed lets as many ticks go by as a session waits at most: behind these each node has it no more, or closed.
func isGivenUpOrClosed(t *testing.T, w *world.World, s api.Name) {
	t.Helper()
	for range 6 {
		all(t, w, tick(0), tick(1))
	}
	for len(packets(t, w)) > 0 {
		all(t, w, drop(0))
	}
	for range 6 {
		all(t, w, tick(0), tick(1))
	}
	hasUnder(t, w)
	for n := range 2 {
		if x, is := talk(t, w, n, s); is && !x.Over {
			t.Fatalf("node %d: %v", n, x)
		}
	}
}

// W8, W3: nodes that crash and start in the midst of sessions, with frames lost and doubled: where a session comes to be closed at both, it is as the judge says; and at the end all meet.
func TestCrashesAndLosses(t *testing.T) {
	closed := 0
	for seed := range uint64(150) {
		rnd := rand.New(rand.NewPCG(seed, 308))
		c := config(2+int(seed)%3, 1+int(seed)%2, 2, 3)
		w := made(t, 2, c)
		writes(t, w, 0, numbered(0, 10+int(seed))...)
		writes(t, w, 1, numbered(5, 10+int(seed)/2)...)
		for range 3 {
			writes(t, w, rnd.IntN(2), "n"+strconv.Itoa(rnd.IntN(9)))
			a, b := w.Map(0), w.Map(1)
			one := rnd.IntN(2)
			s := do(t, w, open(one, 1-one)).Session
			for range 120 {
				n := rnd.IntN(2)
				if rnd.IntN(120) == 0 {
					isMapBehindCrash(t, w, n)
				}
				w.Do(noise(rnd, w, 0, 1))
			}
			if isClosed(t, w, 0, s) && isClosed(t, w, 1, s) {
				judged(t, w, c, a, b, one, 1-one, 0)
				closed++
			}
			for len(packets(t, w)) > 0 {
				all(t, w, drop(0))
			}
		}
		want := newest(w.Map(0), w.Map(1))
		metBy(t, w, c, 0, 1)
		isMap(t, w, 0, want)
		isMap(t, w, 1, want)
	}
	if closed < 60 {
		t.Errorf("%d were closed", closed)
	}
}

func isMapBehindCrash(t *testing.T, w *world.World, n int) {
	t.Helper()
	want := w.Map(n)
	all(t, w, crash(n))
	isMap(t, w, n, want)
	all(t, w, start(n))
	isMap(t, w, n, want)
}
