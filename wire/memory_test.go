package wire_test

import (
	"math"
	"slices"
	"strings"
	"testing"

	"tideline/api"
	"tideline/wire"
)

// roomyFrame is a copy of f whose lists have spare room, with parts and entries in it.
func roomyFrame(f api.Frame) api.Frame {
	g := copied(f)
	for i, p := range g.Parts {
		g.Parts[i].Entries = append(p.Entries, at("spare"), at("room"))[:len(p.Entries)]
	}
	g.Parts = append(g.Parts, items(rng("spare", "t"), at("spare")), api.Part{})[:len(g.Parts)]
	return g
}

// everything is a copy of all that f's lists have, with what lies behind their lengths.
func everything(f api.Frame) api.Frame {
	f.Parts = slices.Clone(f.Parts[:cap(f.Parts)])
	for i, p := range f.Parts {
		f.Parts[i].Entries = slices.Clone(p.Entries[:cap(p.Entries)])
	}
	return f
}

// spoilFrame writes over all that f's lists have, and over their spare room.
func spoilFrame(f api.Frame) {
	l := f.Parts[:cap(f.Parts)]
	for i := range l {
		entries := l[i].Entries[:cap(l[i].Entries)]
		for j := range entries {
			entries[j] = entry("spoilt", math.MaxInt, -1, "spoilt")
		}
		l[i] = api.Part{Kind: 99, Range: rng("spoilt", ""), Tally: tally(-1, 1, 1)}
	}
}

// roomyBytes is a list with room behind its length, which is not empty.
func roomyBytes(b string) []byte {
	l := []byte(b + strings.Repeat("\x01", 40))
	return l[:len(b)]
}

func spoilBytes(b []byte) {
	b = b[:cap(b)]
	for i := range b {
		b[i] ^= 0x55
	}
}

// R3: Encode neither changes nor keeps the frame, nor what lies behind its lists' lengths.
func TestEncodeIsApart(t *testing.T) {
	for _, f := range goodFrames() {
		own := roomyFrame(f)
		all := everything(own)
		one, _ := wire.Encode(own)
		two, _ := wire.Encode(own)
		if !alike(everything(own), all) {
			t.Fatalf("Encode(%s) changed it", brief(f))
		}
		spoilBytes(one)
		if !alike(everything(own), all) || string(two) != bytesOf(f) {
			t.Fatalf("the bytes of %s were changed, and something else with them", brief(f))
		}
		if again := encode(t, own); again != bytesOf(f) {
			t.Fatalf("Encode(%s), asked again: %s", brief(f), short(again))
		}
		spoilFrame(own)
		if string(two) != bytesOf(f) {
			t.Fatalf("%s was changed, and its bytes with it", brief(f))
		}
	}
}

// R3: with an error nothing that was handed in is changed either.
func TestRefusedFramesAreNotChanged(t *testing.T) {
	for _, x := range append(frameFlaws(), partFlaws()...) {
		f := twoParts()
		x.make(&f)
		own := roomyFrame(f)
		all := everything(own)
		if _, e := wire.Encode(own); e != x.e || !alike(everything(own), all) || own.From != f.From {
			t.Errorf("%s: Encode: %d; it changed the frame", x.what, e)
		}
	}
}

// R3: Decode neither changes nor keeps the bytes, nor what lies behind their length.
func TestDecodeIsApart(t *testing.T) {
	for _, want := range goodFrames() {
		b := roomyBytes(bytesOf(want))
		all := slices.Clone(b[:cap(b)])
		one, _ := wire.Decode(b)
		two, e := wire.Decode(b)
		if e != api.OK || !slices.Equal(b[:cap(b)], all) {
			t.Fatalf("Decode(%s): %d; it changed the bytes", short(string(all)), e)
		}
		spoilFrame(one)
		if !slices.Equal(b[:cap(b)], all) || !alike(two, want) {
			t.Fatalf("a frame of %s was changed, and something else with it", short(string(all)))
		}
		spoilBytes(b)
		if !alike(two, want) {
			t.Fatalf("the bytes of %s were changed, and the frame with them", brief(want))
		}
	}
}

// R3: bytes that are refused are not changed either.
func TestRefusedBytesAreNotChanged(t *testing.T) {
	for _, f := range fewFrames() {
		whole := bytesOf(f)
		for _, wrong := range []string{whole + "\x00", whole[:len(whole)-1], "\xFF" + whole, whole[:len(whole)/2]} {
			b := roomyBytes(wrong)
			all := slices.Clone(b[:cap(b)])
			if _, e := wire.Decode(b); e != api.ErrFrame || !slices.Equal(b[:cap(b)], all) {
				t.Fatalf("Decode(%s): %d; it changed the bytes", short(wrong), e)
			}
		}
	}
}

// R3: no two lists of a decoded frame share memory, their spare room either.
func TestListsOfFramesAreApart(t *testing.T) {
	for _, want := range []api.Frame{said(3, single(5)...), said(2, items(rng("a", "c"), under("a", "b")...), items(rng("c", "d")), reply(rng("d", "f"), under("d", "e")...), items(from("f"), at("f")))} {
		b := bytesOf(want)
		for i := range want.Parts {
			f := decode(t, b)
			l := f.Parts[i].Entries
			l = l[:cap(l)]
			for j := range l {
				l[j] = entry("spoilt", -1, 0, "")
			}
			f.Parts[i] = want.Parts[i]
			if !alike(f, want) {
				t.Errorf("part %d of %s was changed, and another one with it", i, brief(want))
			}
		}
	}
}

// R4: what a part's kind does not have is zero, whatever stands in the parts ahead of it.
func TestOtherFieldsAreZero(t *testing.T) {
	f := decode(t, bytesOf(said(2, print(rng("a", "b"), tally(3, 4, 5)), items(rng("b", "c"), entry("b", 1, 0, "v")), print(rng("c", "d"), tally(0, 0, 0)), reply(from("d"), dead("d", 9, 0)))))
	for _, p := range f.Parts {
		switch {
		case p.Kind == api.PartPrint && len(p.Entries) > 0, p.Kind != api.PartPrint && p.Tally != (api.Tally{}):
			t.Errorf("%+v", p)
		case p.Range.Open && p.Range.Hi != "":
			t.Errorf("an Open range with the Hi %q", p.Range.Hi)
		}
	}
	if e := f.Parts[3].Entries[0]; !e.Dead || e.Value != "" {
		t.Errorf("a dead entry: %+v", e)
	}
}
