package wire_test

import (
	"testing"

	"tideline/api"
	"tideline/wire"
)

// P12.2: the chapter's rows.
func TestDecodeExamples(t *testing.T) {
	for _, x := range []struct {
		b    string
		want api.Frame
	}{
		{firstBytes, firstRow()},
		{secondBytes, secondRow()},
		{thirdBytes, thirdRow()},
	} {
		if f, e := wire.Decode([]byte(x.b)); !alike(f, x.want) || e != api.OK {
			t.Errorf("Decode(%q): %+v, %d, want %+v", x.b, f, e, x.want)
		}
	}
	refused(t, "the first row and a byte more", firstBytes+"\x00")
	refused(t, "nothing", "")
	refused(t, "the first row with the Turn 02", "\x02\x01\x01\x01\x01\x02\x00")
	refused(t, "the third row with another range", "\x02\x01\x01\x01\x01\x01\x01"+"\x03\x01b\x00\x01c"+"\x01"+"\x01a\x07\x00\x01")
}

// P12.2: no bytes, nil and empty, and with room behind.
func TestDecodeNothing(t *testing.T) {
	for _, b := range [][]byte{nil, {}, make([]byte, 0, 9), []byte(firstBytes)[:0]} {
		if f, e := wire.Decode(b); !alike(f, api.Frame{}) || e != api.ErrFrame {
			t.Errorf("Decode of nothing: %+v, %d", f, e)
		}
	}
}

// P12.2: frames of all sorts, their bytes laid down by the words.
func TestDecode(t *testing.T) {
	for _, want := range goodFrames() {
		if f := decode(t, bytesOf(want)); !alike(f, want) {
			t.Fatalf("Decode(%s): %s, want %s", short(bytesOf(want)), brief(f), brief(want))
		}
	}
}

// P12.2: each number of the header from 0 on, beyond its most, the others as they are.
func TestDecodeHeaders(t *testing.T) {
	right := 0
	for ends := range 9 * 9 * 9 {
		for _, turn := range []int{0, 1, 2, lastTurn - 1, lastTurn, lastTurn + 1} {
			for _, l := range [][]api.Part{nil, {print(whole(), tally(1, 2, 3))}} {
				f := api.Frame{From: ends % 9, To: ends / 9 % 9, Session: name(ends/81, 1, 1), Turn: turn, Parts: l}
				if asRead(t, bytesOf(f)) {
					right++
				}
			}
		}
	}
	// Of 56 pairs of ends each may say each of five Turns, of turn 0 with the one list alone.
	if right != 56*(1+4*2) {
		t.Errorf("%d of them are frames'", right)
	}
	right = 0
	for _, life := range append(stretch(mostLives), 0, mostLives+1, greatest) {
		for _, number := range append(stretch(mostLives), 0, mostLives+1, greatest) {
			if asRead(t, bytesOf(api.Frame{From: 1, To: 2, Session: name(2, life, number), Turn: 1})) {
				right++
			}
		}
	}
	if n := len(stretch(mostLives)); right != n*n {
		t.Errorf("%d of them are frames', want %d", right, n*n)
	}
}

// R5: what was refused leaves nothing behind: the next bytes are read as ever.
func TestBehindARefusal(t *testing.T) {
	for _, b := range []string{"", firstBytes[:3], secondBytes + "\x00", thirdBytes[:len(thirdBytes)-1], "\xFF"} {
		refused(t, "once", b)
		refused(t, "twice", b)
		if f := decode(t, thirdBytes); !alike(f, thirdRow()) {
			t.Errorf("Decode behind a refusal: %+v", f)
		}
	}
}
