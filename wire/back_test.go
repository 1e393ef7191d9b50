package wire_test

import (
	"math/rand/v2"
	"slices"
	"strings"
	"testing"

	"tideline/api"
	"tideline/frame"
)

// P12.3: Decode of what Encode makes is the frame.
func TestEncodeThenDecode(t *testing.T) {
	for _, f := range goodFrames() {
		g := decode(t, encode(t, f))
		if !alike(f, g) || !frame.Same(f, g) || frame.Check(g) != api.OK {
			t.Fatalf("%s came back as %s", brief(f), brief(g))
		}
	}
}

// P12.3: Encode of what Decode tells is what was decoded; also of bytes that no frame here was encoded to.
func TestDecodeThenEncode(t *testing.T) {
	for _, f := range goodFrames() {
		b := bytesOf(f)
		if got := encode(t, decode(t, b)); got != b {
			t.Fatalf("%s came back as %s", short(b), short(got))
		}
	}
	for _, f := range []api.Frame{secondRow(), thirdRow(), twoParts(), said(4, single(3)...)} {
		b := bytesOf(f)
		right := 0
		for at := range len(b) {
			for with := range 256 {
				changed := b[:at] + string([]byte{byte(with)}) + b[at+1:]
				if _, is := read(changed); !is {
					continue
				}
				right++
				if got := encode(t, decode(t, changed)); got != changed {
					t.Fatalf("%q came back as %q", changed, got)
				}
			}
		}
		if right < 200 {
			t.Errorf("only %d changes of %q are frames': the test tells little", right, b)
		}
	}
}

// P12.3: any frames, there and back.
func TestAnyFrames(t *testing.T) {
	rnd := rand.New(rand.NewPCG(12, 3))
	for range 20000 {
		f := someFrame(rnd)
		b := encode(t, f)
		if b != bytesOf(f) {
			t.Fatalf("Encode(%s): %s, want %s", brief(f), short(b), short(bytesOf(f)))
		}
		if g := decode(t, b); !alike(f, g) {
			t.Fatalf("%s came back as %s", brief(f), brief(g))
		}
	}
}

// someFrame is a frame that may be.
func someFrame(rnd *rand.Rand) api.Frame {
	opener := rnd.IntN(8)
	peer := (opener + 1 + rnd.IntN(7)) % 8
	f := api.Frame{From: opener, To: peer, Session: name(opener, 1+rnd.IntN(mostLives), 1+rnd.IntN(300)), Turn: rnd.IntN(lastTurn + 1)}
	if f.Turn%2 != 0 {
		f.From, f.To = peer, opener
	}
	if f.Turn == 0 {
		f.Parts = []api.Part{somePart(rnd, whole(), nil)}
		return f
	}
	f.Parts = someParts(rnd)
	return f
}

func someParts(rnd *rand.Rand) []api.Part {
	var keys []string
	for range rnd.IntN(20) {
		keys = append(keys, someText(rnd, 16))
	}
	slices.Sort(keys)
	keys = slices.Compact(keys)
	var l []api.Part
	for len(keys) > 1 {
		n := 1 + rnd.IntN(len(keys)-1)
		l = append(l, somePart(rnd, rng(keys[0], keys[n]), keys[:n]))
		keys = keys[n+min(rnd.IntN(2), len(keys)-n-1):]
	}
	if len(l) > 0 && rnd.IntN(2) == 0 {
		last := &l[len(l)-1].Range
		*last = from(last.Lo)
	}
	return l
}

// somePart is one of that range, a Print if there are no keys in it for entries.
func somePart(rnd *rand.Rand, r api.Range, keys []string) api.Part {
	if len(keys) == 0 || rnd.IntN(3) == 0 {
		return print(r, tally(1+rnd.IntN(mostEntries), rnd.Uint64(), rnd.Uint64()))
	}
	p := api.Part{Kind: 2 + rnd.IntN(2), Range: r}
	for _, key := range keys {
		e := entry(key, 1+rnd.IntN(1<<(1+rnd.IntN(40))), rnd.IntN(8), someText(rnd, 32))
		if rnd.IntN(4) == 0 {
			e.Value, e.Dead = "", true
		}
		p.Entries = append(p.Entries, e)
	}
	return p
}

func someText(rnd *rand.Rand, most int) string {
	b := make([]byte, rnd.IntN(most+1))
	for i := range b {
		b[i] = byte(rnd.IntN(256))
	}
	return string(b)
}

// smallFrames are all frames that may be, of a few ends, names, turns, and parts of a few kinds, at most two each.
func smallFrames() []api.Frame {
	var kinds []api.Part
	for _, r := range []api.Range{whole(), from("a"), rng("", "a"), rng("", "\x00"), rng("a", "b"), rng("a", "a\x00")} {
		kinds = append(kinds, items(r), print(r, tally(0, 0, 0)), print(r, tally(1, 0, 0)), print(r, tally(1, 0, 1)), print(r, tally(1, 1, 0)))
		for _, e := range []api.Entry{dead(r.Lo, 1, 0), dead(r.Lo, 1, 1), entry(r.Lo, 1, 0, ""), entry(r.Lo, 128, 0, "\x00"), entry(r.Lo, 1, 0, "\x00\x01")} {
			kinds = append(kinds, items(r, e), reply(r, e))
		}
	}
	lists := [][]api.Part{nil}
	for _, p := range kinds {
		lists = append(lists, []api.Part{p})
		for _, q := range kinds {
			lists = append(lists, []api.Part{p, q})
		}
	}
	var l []api.Frame
	for _, s := range []api.Name{name(0, 1, 1), name(1, 1, 1), name(0, 1, 2), name(0, 2, 1), name(0, 128, 1), name(0, 1, 128)} {
		for _, turn := range []int{0, 1, 2, 63} {
			for _, ends := range [][2]int{{0, 1}, {1, 0}, {0, 2}} {
				for _, parts := range lists {
					f := api.Frame{From: ends[0], To: ends[1], Session: s, Turn: turn, Parts: parts}
					if frame.Check(f) == api.OK {
						l = append(l, f)
					}
				}
			}
		}
	}
	return l
}

// P12.3: unlike frames have unlike bytes, of which none begin the other ones'.
func TestNoBeginning(t *testing.T) {
	small := smallFrames()
	if len(small) < 5000 {
		t.Fatalf("only %d frames: the test tells little", len(small))
	}
	of := map[string]api.Frame{}
	var all []string
	for _, f := range append(small, goodFrames()...) {
		b := encode(t, f)
		if other, is := of[b]; is {
			if !alike(f, other) {
				t.Fatalf("%s and %s have the same bytes, %s", brief(f), brief(other), short(b))
			}
			continue
		}
		of[b] = f
		all = append(all, b)
	}
	slices.Sort(all)
	// Whatever begins with a text stands right behind it, where texts are sorted.
	for i := 1; i < len(all); i++ {
		if strings.HasPrefix(all[i], all[i-1]) {
			t.Fatalf("%s begins %s", short(all[i-1]), short(all[i]))
		}
	}
}

// P12.3: frames that differ in one thing alone have unlike bytes.
func TestUnlikeInOneThing(t *testing.T) {
	base := said(2, print(rng("a", "b"), tally(1, 2, 3)), items(rng("b", "c"), entry("b", 5, 1, "v"), dead("bb", 6, 2)))
	changes := []func(f *api.Frame){
		func(f *api.Frame) { f.To = 3 },
		func(f *api.Frame) { f.From, f.Session.Opener = 4, 4 },
		func(f *api.Frame) { f.From, f.To, f.Turn = 2, 1, 3 },
		func(f *api.Frame) { f.Session.Life = 2 },
		func(f *api.Frame) { f.Session.Number = 2 },
		func(f *api.Frame) { f.Turn = 4 },
		func(f *api.Frame) { f.Parts = nil },
		func(f *api.Frame) { f.Parts = f.Parts[:1] },
		func(f *api.Frame) { f.Parts = f.Parts[1:] },
		func(f *api.Frame) { f.Parts = append(f.Parts, items(from("c"))) },
		func(f *api.Frame) { f.Parts[0].Range.Lo = "" },
		func(f *api.Frame) { f.Parts[0].Range.Hi = "ab" },
		func(f *api.Frame) { f.Parts[0].Tally.Count = 2 },
		func(f *api.Frame) { f.Parts[0].Tally.Sum[0] = 3 },
		func(f *api.Frame) { f.Parts[0].Tally.Sum[1] = 2 },
		func(f *api.Frame) { f.Parts[0].Tally.Sum = api.Sum{3, 2} },
		func(f *api.Frame) { f.Parts[1].Kind = 3 },
		func(f *api.Frame) { f.Parts[1].Range = from("b") },
		func(f *api.Frame) { f.Parts[1].Entries = nil },
		func(f *api.Frame) { f.Parts[1].Entries = f.Parts[1].Entries[1:] },
		func(f *api.Frame) { f.Parts[1].Entries[0].Key = "b\x00" },
		func(f *api.Frame) { f.Parts[1].Entries[0].Version.Counter = 6 },
		func(f *api.Frame) { f.Parts[1].Entries[0].Version.Node = 2 },
		func(f *api.Frame) { f.Parts[1].Entries[0].Value = "" },
		func(f *api.Frame) { f.Parts[1].Entries[0].Value, f.Parts[1].Entries[0].Dead = "", true },
		func(f *api.Frame) { f.Parts[1].Entries[1].Dead = false },
	}
	seen := map[string]int{encode(t, base): -1}
	for i, change := range changes {
		f := copied(base)
		change(&f)
		b := encode(t, f)
		if other, is := seen[b]; is {
			t.Errorf("changes %d and %d have the same bytes, %q", i, other, b)
		}
		seen[b] = i
		if g := decode(t, b); !alike(f, g) {
			t.Errorf("change %d: %+v came back as %+v", i, f, g)
		}
	}
}
