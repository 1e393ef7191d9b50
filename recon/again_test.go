package recon_test

import (
	"math/rand/v2"
	"slices"
	"testing"

	"tideline/api"
	"tideline/frame"
	"tideline/recon"
	"tideline/store"
)

// repeated has a side hear once more a frame that it has heard, and asks that this is stale, or answered by the last frame, and changes nothing.
func repeated(t *testing.T, x *recon.Talk, s *store.Store, f api.Frame) {
	t.Helper()
	quiet(t, "once more", x, s, func() {
		answer, is, h, e := x.Hear(f)
		last := x.Last()
		want := api.ErrStale
		if f.Turn == last.Turn-1 {
			want = api.OK
		}
		if e != want || is != (e == api.OK) || h != (api.Heard{}) {
			t.Fatalf("%s, last %s: %v, %v, %d", brief(f), brief(last), is, h, e)
		}
		if is && !frame.Same(answer, last) || !is && !frame.Same(answer, api.Frame{}) {
			t.Fatalf("%s, last %s: %s", brief(f), brief(last), brief(answer))
		}
	})
}

// heardAt are the frames of the session that have been heard at its opener, or else at its peer.
func (m *meeting) heardAt(opener bool, unheard int) []api.Frame {
	var l []api.Frame
	for _, f := range m.frames[:len(m.frames)-unheard] {
		if opener == (f.Turn%2 == 1) {
			l = append(l, f)
		}
	}
	return l
}

// repeat has both sides hear once more some of the frames that they have heard, in any order; unheard is how many of the last ones nobody has heard yet.
func (m *meeting) repeat(t *testing.T, rnd *rand.Rand, times, unheard int) {
	t.Helper()
	for range times {
		if l := m.heardAt(true, unheard); len(l) > 0 {
			repeated(t, m.x, m.s3, l[rnd.IntN(len(l))])
		}
		if l := m.heardAt(false, unheard); len(l) > 0 {
			repeated(t, m.y, m.s5, l[rnd.IntN(len(l))])
		}
	}
}

// sameSession asks that the sessions went the same way.
func sameSession(t *testing.T, m, n *meeting) {
	t.Helper()
	if m.all != n.all || !slices.EqualFunc(m.frames, n.frames, frame.Same) {
		t.Fatalf("%d frames, %v; want %d, %v", len(m.frames), m.all, len(n.frames), n.all)
	}
	isAs(t, "the opener", m.s3, 3, n.s3.Clock(), heldBy(t, n.s3))
	isAs(t, "the peer", m.s5, 5, n.s5.Clock(), heldBy(t, n.s5))
	isSeen(t, "the opener", m.x, look(n.x))
	isSeen(t, "the peer", m.y, look(n.y))
}

// P14.9: frames that were heard already, and come once more at any time, change nothing of what is said and taken.
func TestRepeatedFrames(t *testing.T) {
	rnd := rand.New(rand.NewPCG(14, 9))
	for i := range 300 {
		keys := [][]string{oddKeys(), numbered(0, 40), numbered(0, most)}[rnd.IntN(3)]
		a, b := someMap(rnd, keys), someMap(rnd, keys)
		if i%5 == 0 {
			a, b = many(most), under(numbered(rnd.IntN(most), most), 700)
		}
		c := config(2+rnd.IntN(15), 1+rnd.IntN(32))
		m := begun(t, a, b, c, c)
		m.repeat(t, rnd, 3, 1)
		for m.step(t) {
			m.repeat(t, rnd, 1+rnd.IntN(10), 1)
		}
		m.repeat(t, rnd, 20, 0)
		sameSession(t, m, begun(t, a, b, c, c).through(t))
	}
}

// P14.9: every frame comes twice, thrice, as its side awaits it and behind that.
func TestEachFrameTwice(t *testing.T) {
	for _, c := range sampleConfigs() {
		for _, b := range sampleMaps() {
			a := under(numbered(3, 40), 800)
			m := begun(t, a, b, c, c)
			for is := true; is; {
				x, s := m.awaits()
				f := m.frames[len(m.frames)-1]
				is = m.step(t)
				repeated(t, x, s, f)
				repeated(t, x, s, f)
			}
			sameSession(t, m, begun(t, a, b, c, c).through(t))
		}
	}
}

// P14.9: also where the store is written to between: the last frame goes out again as it was.
func TestAgainAsItWas(t *testing.T) {
	opener, peer := bothSides(t, config(2, 32), many(3))
	for _, x := range []side{opener, peer} {
		f := next(x.x, print(whole(), api.Tally{}))
		first, is, _ := heard(t, x.x, f)
		if !is || len(first.Parts) != 1 || len(first.Parts[0].Entries) != 3 {
			t.Fatal(brief(first), is)
		}
		for range 5 {
			x.s.Put("a", "later")
			x.s.Delete(numbered(1, 1)[0])
			quiet(t, x.what, x.x, x.s, func() {
				if again, is, h := heard(t, x.x, f); !is || h != (api.Heard{}) || !frame.Same(again, first) {
					t.Fatal(brief(again), is, h)
				}
			})
		}
	}
}

// P14.9: entries that came once, and have been written over since, are not taken when their frame comes again.
func TestAgainTakesNothing(t *testing.T) {
	opener, peer := bothSides(t, config(2, 1), nil)
	for _, x := range []side{opener, peer} {
		f := next(x.x, items(whole(), entry("a", 5, 1, "x")), other(from("b")))
		f.Parts[0].Range = rng("", "b")
		if _, is, h := heard(t, x.x, f); !is || h != (api.Heard{Taken: 1}) {
			t.Fatal(is, h)
		}
		more := next(x.x, reply(whole(), entry("a", 9, 1, "y")))
		more.Turn = f.Turn
		repeated(t, x.x, x.s, f)
		repeated(t, x.x, x.s, more)
		if e, _, _ := x.s.Get("a"); e != entry("a", 5, 1, "x") {
			t.Error(quoted(e))
		}
	}
}
