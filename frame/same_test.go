package frame_test

import (
	"math"
	"math/rand/v2"
	"slices"
	"testing"

	"tideline/api"
	"tideline/frame"
)

// P11.5
func TestClosing(t *testing.T) {
	for _, f := range slices.Concat(goodFrames(), wrongFrames()) {
		for _, l := range [][]api.Part{nil, {}, parts(w())[:0]} {
			f.Parts = l
			if !frame.Closing(f) {
				t.Errorf("Closing(%+v): false", f)
			}
		}
		for _, l := range [][]api.Part{{api.Part{}}, {w()}, {items(whole())}, prints(mostParts), prints(mostParts + 1)} {
			f.Parts = l
			if frame.Closing(f) {
				t.Errorf("Closing of one with %d parts: true", len(l))
			}
		}
	}
}

// P11.5
func TestEntries(t *testing.T) {
	for _, x := range []struct {
		l    []api.Part
		want int
	}{
		{nil, 0},
		{[]api.Part{}, 0},
		{parts(w()), 0},
		{parts(items(whole())), 0},
		{parts(items(whole(), []api.Entry{}...)), 0},
		{parts(items(whole(), at("a"))), 1},
		{parts(items(rng("a", "b"), under("a", "aa")...), w(), reply(rng("b", "c"), at("b"))), 3},
		{parts(reply(whole(), under(numbered(0, mostEntries)...)...)), mostEntries},
		{withEntries(mostEntries, mostEntries), mostEntries},
		{withEntries(mostParts, mostParts), mostParts},
		{parts(reply(whole(), under(numbered(0, 1000)...)...), items(whole(), under(numbered(0, 1000)...)...)), 2000},
		// Of parts that may not have any.
		{parts(api.Part{Kind: 1, Entries: make([]api.Entry, 5)}, api.Part{Entries: make([]api.Entry, 2)}), 7},
	} {
		for _, f := range []api.Frame{said(2, x.l...), {Parts: x.l}, {From: -1, To: math.MaxInt, Turn: -7, Parts: x.l}} {
			if got := frame.Entries(f); got != x.want {
				t.Errorf("Entries of %d parts: %d, want %d", len(x.l), got, x.want)
			}
		}
	}
}

// full is a frame, which may not be, in which nothing is zero.
func full() api.Frame {
	a := api.Part{Kind: 1, Range: openTo("b", "c"), Tally: tally(4, 5, 6), Entries: []api.Entry{
		{Key: "k", Version: api.Version{Counter: 7, Node: 2}, Value: "v", Dead: true},
		{Key: "l", Version: api.Version{Counter: 8, Node: 3}, Value: "w", Dead: true},
	}}
	b := api.Part{Kind: 3, Range: openTo("x", "y"), Tally: tally(7, 8, 9), Entries: []api.Entry{
		{Key: "x", Version: api.Version{Counter: 9, Node: 4}, Value: "y", Dead: true},
	}}
	return api.Frame{From: 1, To: 2, Session: name(3, 4, 5), Turn: 6, Parts: parts(a, b)}
}

// changes are all ways in which a frame may be another one.
func changes() map[string]func(f *api.Frame) {
	return map[string]func(f *api.Frame){
		"From":          func(f *api.Frame) { f.From++ },
		"To":            func(f *api.Frame) { f.To-- },
		"Opener":        func(f *api.Frame) { f.Session.Opener = math.MinInt },
		"Life":          func(f *api.Frame) { f.Session.Life++ },
		"Number":        func(f *api.Frame) { f.Session.Number += 1 << 32 },
		"Turn":          func(f *api.Frame) { f.Turn++ },
		"no parts":      func(f *api.Frame) { f.Parts = nil },
		"one part":      func(f *api.Frame) { f.Parts = f.Parts[:1] },
		"a part more":   func(f *api.Frame) { f.Parts = append(f.Parts, api.Part{}) },
		"parts swapped": func(f *api.Frame) { f.Parts[0], f.Parts[1] = f.Parts[1], f.Parts[0] },
		"part 0":        func(f *api.Frame) { f.Parts[0] = f.Parts[1] },
		"Kind":          func(f *api.Frame) { f.Parts[0].Kind++ },
		"Kind of 1":     func(f *api.Frame) { f.Parts[1].Kind-- },
		"Lo":            func(f *api.Frame) { f.Parts[0].Range.Lo += "\x00" },
		"Hi":            func(f *api.Frame) { f.Parts[0].Range.Hi = "" },
		"Open":          func(f *api.Frame) { f.Parts[1].Range.Open = false },
		"Count":         func(f *api.Frame) { f.Parts[0].Tally.Count = 0 },
		"lane 0":        func(f *api.Frame) { f.Parts[0].Tally.Sum[0]++ },
		"lane 1":        func(f *api.Frame) { f.Parts[1].Tally.Sum[1] ^= 1 << 63 },
		"lanes swapped": func(f *api.Frame) { p := &f.Parts[0].Tally.Sum; p[0], p[1] = p[1], p[0] },
		"no entries":    func(f *api.Frame) { f.Parts[0].Entries = nil },
		"one entry":     func(f *api.Frame) { f.Parts[0].Entries = f.Parts[0].Entries[:1] },
		"an entry more": func(f *api.Frame) { f.Parts[1].Entries = append(f.Parts[1].Entries, api.Entry{}) },
		"entries swapped": func(f *api.Frame) {
			l := f.Parts[0].Entries
			l[0], l[1] = l[1], l[0]
		},
		"entries moved": func(f *api.Frame) {
			f.Parts[1].Entries = append(slices.Clone(f.Parts[0].Entries[1:]), f.Parts[1].Entries...)
			f.Parts[0].Entries = f.Parts[0].Entries[:1]
		},
		"Key":     func(f *api.Frame) { f.Parts[0].Entries[1].Key = "K" },
		"Counter": func(f *api.Frame) { f.Parts[0].Entries[0].Version.Counter++ },
		"Node":    func(f *api.Frame) { f.Parts[1].Entries[0].Version.Node = -1 },
		"Value":   func(f *api.Frame) { f.Parts[0].Entries[1].Value = "" },
		"Dead":    func(f *api.Frame) { f.Parts[1].Entries[0].Dead = false },
	}
}

// P11.5: each change makes another frame, and any two of them unlike ones.
func TestSameOfOneThingChanged(t *testing.T) {
	for what, change := range changes() {
		f := full()
		change(&f)
		if frame.Same(f, full()) || frame.Same(full(), f) || !frame.Same(f, f) {
			t.Errorf("Same of one with %s changed: %t, with itself %t", what, frame.Same(f, full()), frame.Same(f, f))
		}
		for other, too := range changes() {
			g := full()
			too(&g)
			if is := frame.Same(f, g); is != (what == other) || is != alike(f, g) {
				t.Errorf("Same of one with %s and one with %s changed: %t", what, other, is)
			}
		}
	}
	if !frame.Same(full(), full()) {
		t.Error("Same of a frame and itself made anew: false")
	}
}

// P11.5: lists without elements are the same, nil or not, with spare room or without.
func TestSameOfListsWithoutElements(t *testing.T) {
	noParts := [][]api.Part{nil, {}, parts(w())[:0]}
	for _, a := range noParts {
		for _, b := range noParts {
			if !frame.Same(said(1, a...), said(1, b...)) {
				t.Error("frames without parts are not the same")
			}
		}
		if frame.Same(said(1, a...), said(1, api.Part{})) || frame.Same(said(1, api.Part{}), said(1, a...)) {
			t.Error("no part and the zero Part are the same")
		}
	}
	noEntries := [][]api.Entry{nil, {}, under("a", "b")[:0]}
	for _, a := range noEntries {
		for _, b := range noEntries {
			if !frame.Same(said(1, items(whole(), a...)), said(1, items(whole(), b...))) {
				t.Error("parts without entries are not the same")
			}
		}
		if frame.Same(said(1, items(whole(), a...)), said(1, items(whole(), api.Entry{}))) {
			t.Error("no entry and the zero Entry are the same")
		}
	}
}

// P11.5: frames of all sorts, each with each.
func TestSameOfSamples(t *testing.T) {
	l := slices.Concat(goodFrames(), wrongFrames())
	for i, a := range l {
		for j, b := range l {
			if is := frame.Same(a, copied(b)); is != alike(a, b) || i == j && !is {
				t.Errorf("Same of the frames %d and %d: %t", i, j, is)
			}
		}
	}
}

// P11.5: any frames with few parts, each with a few others and with itself made anew.
func TestSameOfAnyFrames(t *testing.T) {
	rnd := rand.New(rand.NewPCG(11, 5))
	var last api.Frame
	for range 20000 {
		f := someFrame(rnd)
		if !frame.Same(f, copied(f)) || frame.Same(f, last) != alike(f, last) {
			t.Fatalf("Same(%+v, %+v): %t", f, last, frame.Same(f, last))
		}
		last = f
	}
}
