package nums_test

import (
	"math"
	"strings"
	"testing"

	"tideline/nums"
)

func written(lay func(w *nums.Writer)) string {
	w := nums.NewWriter()
	lay(w)
	return string(w.Bytes())
}

// P1.1
func TestWriterIsEmptyAtFirst(t *testing.T) {
	w := nums.NewWriter()
	if w.Len() != 0 || len(w.Bytes()) != 0 {
		t.Errorf("%d bytes, %x", w.Len(), w.Bytes())
	}
}

// P1.1
func TestWriterNum(t *testing.T) {
	for _, x := range []struct {
		n    int
		want string
	}{
		{0, "\x00"},
		{1, "\x01"},
		{127, "\x7f"},
		{128, "\x80\x01"},
		{129, "\x81\x01"},
		{255, "\xff\x01"},
		{256, "\x80\x02"},
		{300, "\xac\x02"},
		{1<<14 - 1, "\xff\x7f"},
		{1 << 14, "\x80\x80\x01"},
		{1<<56 - 1, "\xff\xff\xff\xff\xff\xff\xff\x7f"},
		{1 << 56, "\x80\x80\x80\x80\x80\x80\x80\x80\x01"},
		{1 << 62, "\x80\x80\x80\x80\x80\x80\x80\x80\x40"},
		{math.MaxInt64, "\xff\xff\xff\xff\xff\xff\xff\xff\x7f"},
		{-1, "\x00"},
		{-128, "\x00"},
		{math.MinInt64, "\x00"},
	} {
		if got := written(func(w *nums.Writer) { w.Num(x.n) }); got != x.want {
			t.Errorf("Num(%d): %x, want %x", x.n, got, x.want)
		}
	}
}

// P1.1
func TestWriterText(t *testing.T) {
	for _, x := range []struct{ s, want string }{
		{"", "\x00"},
		{"ab", "\x02ab"},
		{"\x00\xff", "\x02\x00\xff"},
		{"ü", "\x02\xc3\xbc"},
		{strings.Repeat("x", 127), "\x7f" + strings.Repeat("x", 127)},
		{strings.Repeat("x", 128), "\x80\x01" + strings.Repeat("x", 128)},
		{strings.Repeat("x", 300), "\xac\x02" + strings.Repeat("x", 300)},
	} {
		if got := written(func(w *nums.Writer) { w.Text(x.s) }); got != x.want {
			t.Errorf("Text(%q): %x, want %x", x.s, got, x.want)
		}
	}
}

// P1.1
func TestWriterWord(t *testing.T) {
	for _, x := range []struct {
		u    uint64
		want string
	}{
		{0, "\x00\x00\x00\x00\x00\x00\x00\x00"},
		{258, "\x00\x00\x00\x00\x00\x00\x01\x02"},
		{0x0123456789abcdef, "\x01\x23\x45\x67\x89\xab\xcd\xef"},
		{math.MaxUint64, "\xff\xff\xff\xff\xff\xff\xff\xff"},
	} {
		if got := written(func(w *nums.Writer) { w.Word(x.u) }); got != x.want {
			t.Errorf("Word(%d): %x, want %x", x.u, got, x.want)
		}
	}
}

// P1.1
func TestWriterFlag(t *testing.T) {
	if got := written(func(w *nums.Writer) { w.Flag(true); w.Flag(false) }); got != "\x01\x00" {
		t.Errorf("%x", got)
	}
}

// P1.1
func TestWriterLaysBehindWhatIsThere(t *testing.T) {
	w := nums.NewWriter()
	want := ""
	for _, x := range []struct {
		lay   func()
		bytes string
	}{
		{func() { w.Num(300) }, "\xac\x02"},
		{func() { w.Text("ab") }, "\x02ab"},
		{func() { w.Num(-4) }, "\x00"},
		{func() { w.Word(258) }, "\x00\x00\x00\x00\x00\x00\x01\x02"},
		{func() { w.Flag(true) }, "\x01"},
		{func() { w.Text("") }, "\x00"},
	} {
		x.lay()
		want += x.bytes
		if got := string(w.Bytes()); got != want || w.Len() != len(want) {
			t.Errorf("%d bytes, %x, want %x", w.Len(), got, want)
		}
	}
}

// P1.1, R3
func TestWriterBytesAreNewMemory(t *testing.T) {
	w := nums.NewWriter()
	w.Text("abc")
	first, second := w.Bytes(), w.Bytes()
	first[1] = 'X'
	_ = append(first, "behind"...)
	if string(second) != "\x03abc" || string(w.Bytes()) != "\x03abc" {
		t.Errorf("a change of one answer is seen: %x, %x", second, w.Bytes())
	}
	w.Num(5)
	w.Num(6)
	if string(w.Bytes()) != "\x03abc\x05\x06" {
		t.Errorf("%x", w.Bytes())
	}
	if room := second[:cap(second)]; strings.Contains(string(room), "\x05\x06") {
		t.Errorf("an answer's spare room is written to: %x", room)
	}
}

// R3
func TestWritersHaveNothingInCommon(t *testing.T) {
	v, w := nums.NewWriter(), nums.NewWriter()
	v.Num(1)
	w.Num(2)
	v.Num(3)
	if string(v.Bytes()) != "\x01\x03" || string(w.Bytes()) != "\x02" {
		t.Errorf("%x, %x", v.Bytes(), w.Bytes())
	}
}
