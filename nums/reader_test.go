package nums_test

import (
	"math"
	"strings"
	"testing"

	"tideline/api"
	"tideline/nums"
)

func reader(s string) *nums.Reader { return nums.NewReader([]byte(s)) }

// stands looks whether the reader is at a place, with so many bytes left and an error.
func stands(t *testing.T, what string, r *nums.Reader, at, left int, e api.Errno) {
	t.Helper()
	if r.At() != at || r.Left() != left || r.Err() != e {
		t.Errorf("%s: At %d, Left %d, Err %d, want %d, %d, %d", what, r.At(), r.Left(), r.Err(), at, left, e)
	}
}

// readsNothing looks whether a broken reader stays what it is, whatever it is asked.
func readsNothing(t *testing.T, what string, r *nums.Reader) {
	t.Helper()
	at, left, e := r.At(), r.Left(), r.Err()
	if e == api.OK {
		t.Errorf("%s: not broken", what)
	}
	for range 2 {
		if n := r.Num(math.MaxInt64); n != 0 {
			t.Errorf("%s: a broken reader answers the number %d", what, n)
		}
		if s := r.Text(math.MaxInt64); s != "" {
			t.Errorf("%s: a broken reader answers the text %q", what, s)
		}
		if u := r.Word(); u != 0 {
			t.Errorf("%s: a broken reader answers the word %d", what, u)
		}
		if r.Flag() {
			t.Errorf("%s: a broken reader answers true", what)
		}
		r.Fail(api.ErrWorn)
		r.Fail(api.OK)
		stands(t, what, r, at, left, e)
		if r.Done() != e {
			t.Errorf("%s: Done %d, want %d", what, r.Done(), e)
		}
	}
}

// P1.2
func TestReaderNum(t *testing.T) {
	for _, x := range []struct {
		b    string
		most int
		want int
		size int
	}{
		{"\x00", 0, 0, 1},
		{"\x00", math.MaxInt64, 0, 1},
		{"\x01", 1, 1, 1},
		{"\x7f", 127, 127, 1},
		{"\x80\x01", 128, 128, 2},
		{"\xac\x02", 300, 300, 2},
		{"\xac\x02\x05", 300, 300, 2},
		{"\x00\x00", 5, 0, 1},
		{"\xff\x7f", 1<<14 - 1, 1<<14 - 1, 2},
		{"\x80\x80\x01", 1 << 14, 1 << 14, 3},
		{"\x80\x80\x80\x80\x80\x80\x80\x80\x01", math.MaxInt64, 1 << 56, 9},
		{"\xff\xff\xff\xff\xff\xff\xff\xff\x7f", math.MaxInt64, math.MaxInt64, 9},
		{"\xff\xff\xff\xff\xff\xff\xff\xff\x7f\xff", math.MaxInt64, math.MaxInt64, 9},
	} {
		r := reader(x.b)
		if n := r.Num(x.most); n != x.want {
			t.Errorf("Num(%d) of %x: %d, want %d", x.most, x.b, n, x.want)
		}
		stands(t, "Num", r, x.size, len(x.b)-x.size, api.OK)
	}
}

// P1.2
func TestReaderNumBreaks(t *testing.T) {
	eight := strings.Repeat("\xff", 8)
	for _, x := range []struct {
		b    string
		most int
		want api.Errno
	}{
		{"", 300, api.ErrShort},
		{"", -1, api.ErrShort},
		{"\x80", 300, api.ErrShort},
		{"\xff\xff", 0, api.ErrShort},
		{eight, math.MaxInt64, api.ErrShort},
		{"\x80\x00", 300, api.ErrForm},
		{"\x80\x00", -1, api.ErrForm},
		{"\xff\x00", 0, api.ErrForm},
		{"\x80\x80\x00\x01", 300, api.ErrForm},
		{eight + "\x00", math.MaxInt64, api.ErrForm},
		{eight + "\x80", math.MaxInt64, api.ErrForm},
		{eight + "\xff", 300, api.ErrForm},
		{eight + "\x80\x01", math.MaxInt64, api.ErrForm},
		{eight + "\xff\xff\xff\x01", math.MaxInt64, api.ErrForm},
		{"\xac\x02", 299, api.ErrBig},
		{"\x01", 0, api.ErrBig},
		{"\x00", -1, api.ErrBig},
		{"\x00", math.MinInt64, api.ErrBig},
		{"\x7f\x01", 126, api.ErrBig},
		{eight + "\x7f", math.MaxInt64 - 1, api.ErrBig},
	} {
		// Once at the beginning, once behind a number that was read.
		for _, ahead := range []string{"", "\x05"} {
			r := reader(ahead + x.b)
			if ahead != "" && r.Num(5) != 5 {
				t.Errorf("the number ahead of %x", x.b)
			}
			if n := r.Num(x.most); n != 0 {
				t.Errorf("Num(%d) of %x: %d", x.most, x.b, n)
			}
			stands(t, "Num", r, len(ahead), len(x.b), x.want)
			readsNothing(t, "Num", r)
		}
	}
}

// P1.2
func TestReaderText(t *testing.T) {
	long := strings.Repeat("x", 128)
	for _, x := range []struct {
		b    string
		most int
		want string
		left int
	}{
		{"\x00", 0, "", 0},
		{"\x00ab", 4, "", 2},
		{"\x02ab", 2, "ab", 0},
		{"\x02ab", math.MaxInt64, "ab", 0},
		{"\x02abc", 4, "ab", 1},
		{"\x02\x00\xff", 4, "\x00\xff", 0},
		{"\x80\x01" + long, 128, long, 0},
	} {
		r := reader(x.b)
		if s := r.Text(x.most); s != x.want {
			t.Errorf("Text(%d) of %x: %q, want %q", x.most, x.b, s, x.want)
		}
		stands(t, "Text", r, len(x.b)-x.left, x.left, api.OK)
	}
}

// P1.2
func TestReaderTextBreaks(t *testing.T) {
	for _, x := range []struct {
		b    string
		most int
		want api.Errno
	}{
		{"", 4, api.ErrShort},
		{"\x03ab", 4, api.ErrShort},
		{"\x01", 4, api.ErrShort},
		{"\x80", 4, api.ErrShort},
		{"\x80\x01ab", 128, api.ErrShort},
		{"\xff\xff\xff\xff\xff\xff\xff\xff\x7fab", math.MaxInt64, api.ErrShort},
		{"\x05ab", 4, api.ErrBig},
		{"\x05abcdef", 4, api.ErrBig},
		{"\x00", -1, api.ErrBig},
		{"\x80\x00ab", 4, api.ErrForm},
		{"\xff\xff\xff\xff\xff\xff\xff\xff\xff", 4, api.ErrForm},
	} {
		for _, ahead := range []string{"", "\x01z"} {
			r := reader(ahead + x.b)
			if ahead != "" && r.Text(1) != "z" {
				t.Errorf("the text ahead of %x", x.b)
			}
			if s := r.Text(x.most); s != "" {
				t.Errorf("Text(%d) of %x: %q", x.most, x.b, s)
			}
			stands(t, "Text", r, len(ahead), len(x.b), x.want)
			readsNothing(t, "Text", r)
		}
	}
}

// P1.2
func TestReaderWord(t *testing.T) {
	r := reader("\x00\x00\x00\x00\x00\x00\x01\x02\xff\xfe\xfd\xfc\xfb\xfa\xf9\xf8\x09")
	if u := r.Word(); u != 258 {
		t.Errorf("%d, want 258", u)
	}
	stands(t, "Word", r, 8, 9, api.OK)
	if u := r.Word(); u != 0xfffefdfcfbfaf9f8 {
		t.Errorf("%x", u)
	}
	stands(t, "Word", r, 16, 1, api.OK)
	if u := r.Word(); u != 0 {
		t.Errorf("%d of one byte", u)
	}
	stands(t, "Word", r, 16, 1, api.ErrShort)
	readsNothing(t, "Word", r)
}

// P1.2
func TestReaderWordBreaks(t *testing.T) {
	for size := range 8 {
		r := reader("\x01" + strings.Repeat("\x01", size))
		r.Flag()
		if u := r.Word(); u != 0 {
			t.Errorf("%d of %d bytes", u, size)
		}
		stands(t, "Word", r, 1, size, api.ErrShort)
		readsNothing(t, "Word", r)
	}
}

// P1.2
func TestReaderFlag(t *testing.T) {
	r := reader("\x01\x00")
	if !r.Flag() {
		t.Error("1 is no true")
	}
	stands(t, "Flag", r, 1, 1, api.OK)
	if r.Flag() {
		t.Error("0 is no false")
	}
	stands(t, "Flag", r, 2, 0, api.OK)
	if r.Flag() {
		t.Error("nothing is true")
	}
	stands(t, "Flag", r, 2, 0, api.ErrShort)
	readsNothing(t, "Flag", r)
	for b := 2; b < 256; b++ {
		r := nums.NewReader([]byte{1, byte(b), 1})
		r.Flag()
		if r.Flag() {
			t.Errorf("%d is true", b)
		}
		stands(t, "Flag", r, 1, 2, api.ErrForm)
		readsNothing(t, "Flag", r)
	}
}

// P1.2, R3
func TestReaderKeepsItsBytes(t *testing.T) {
	all := []byte("\x02ab\x05behind")
	b := all[:4]
	r := nums.NewReader(b)
	b[1], b[3] = 'X', 9
	if s := r.Text(2); s != "ab" {
		t.Errorf("%q", s)
	}
	b[0] = 7
	if n := r.Num(9); n != 5 || r.Done() != api.OK {
		t.Errorf("%d, Done %d", n, r.Done())
	}
	if string(all) != "\x07Xb\x09behind" {
		t.Errorf("what was handed in was changed: %q", all)
	}
	again := nums.NewReader(b)
	stands(t, "a reader of the same bytes", again, 0, 4, api.OK)
}

// P1.3
func TestReaderOfNothing(t *testing.T) {
	for _, b := range [][]byte{nil, {}} {
		r := nums.NewReader(b)
		stands(t, "a reader of nothing", r, 0, 0, api.OK)
		if r.Done() != api.OK {
			t.Errorf("Done %d", r.Done())
		}
	}
}

// P1.3
func TestReaderDone(t *testing.T) {
	r := reader("\xac\x02\x05")
	for range 2 {
		if r.Done() != api.ErrRest {
			t.Errorf("Done %d with three bytes left", r.Done())
		}
		stands(t, "Done", r, 0, 3, api.OK)
	}
	if n := r.Num(300); n != 300 || r.Done() != api.ErrRest {
		t.Errorf("%d, Done %d with one byte left", n, r.Done())
	}
	stands(t, "Done", r, 2, 1, api.OK)
	if n := r.Num(5); n != 5 || r.Done() != api.OK {
		t.Errorf("%d, Done %d at the end", n, r.Done())
	}
	stands(t, "Done", r, 3, 0, api.OK)
}

// P1.3
func TestReaderFail(t *testing.T) {
	for _, e := range []api.Errno{api.ErrKey, api.ErrShort, api.ErrRest, api.ErrArg, -1, 9999} {
		r := reader("\x01\x02\x03")
		r.Num(1)
		r.Fail(e)
		stands(t, "Fail", r, 1, 2, e)
		if r.Done() != e {
			t.Errorf("Done %d, want %d", r.Done(), e)
		}
		r.Fail(api.ErrValue)
		stands(t, "a second Fail", r, 1, 2, e)
		readsNothing(t, "Fail", r)
	}
}

// P1.3
func TestReaderFailAtTheEnd(t *testing.T) {
	r := reader("\x01")
	r.Num(1)
	r.Fail(api.ErrVersion)
	stands(t, "Fail", r, 1, 0, api.ErrVersion)
	readsNothing(t, "Fail", r)
}

// P1.3
func TestReaderFailWithOK(t *testing.T) {
	r := reader("\x01\x02")
	r.Num(1)
	r.Fail(api.OK)
	stands(t, "Fail(OK)", r, 1, 1, api.OK)
	if n := r.Num(2); n != 2 || r.Done() != api.OK {
		t.Errorf("%d, Done %d", n, r.Done())
	}
	r.Flag()
	r.Fail(api.OK)
	stands(t, "Fail(OK) of a broken one", r, 2, 0, api.ErrShort)
}
