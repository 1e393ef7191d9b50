package item_test

import (
	"math/rand/v2"
	"strings"
	"testing"

	"tideline/api"
	"tideline/item"
)

// P3.5
func TestTexts(t *testing.T) {
	for _, x := range []struct {
		e    api.Entry
		text string
	}{
		{entry("a", 300, 1, "bc"), "k61 300.1 =6263"},
		{dead("", 1, 0), "k 1.0 x"},
		{entry("", 1, 0, ""), "k 1.0 ="},
		{dead("a", 300, 1), "k61 300.1 x"},
		{entry("\x00\xff", 10, 7, "\x0a\xa0"), "k00ff 10.7 =0aa0"},
		{entry("k", 1, 0, "="), "k6b 1.0 =3d"},
		{entry(" ", 1, 0, "x"), "k20 1.0 =78"},
		{entry(longKey, greatest, 7, longValue), "k" + strings.Repeat("6b", 16) + " 1099511627776.7 =" + strings.Repeat("76", 32)},
	} {
		if s, e := item.Print(x.e); s != x.text || e != api.OK {
			t.Errorf("Print(%s): %q, %d, want %q", told(x.e), s, e, x.text)
		}
		if y, e := item.Parse(x.text); y != x.e || e != api.OK {
			t.Errorf("Parse(%q): %s, %d, want %s", x.text, told(y), e, told(x.e))
		}
	}
}

// P3.5, R2
func TestPrintWrong(t *testing.T) {
	for _, x := range anyEntries() {
		want := firstWrong(x)
		if want == api.OK {
			continue
		}
		if s, e := item.Print(x); s != "" || e != want {
			t.Errorf("Print(%s): %q, %d, want %d", told(x), s, e, want)
		}
	}
}

// P3.5, R2, R7
func TestParseOtherForms(t *testing.T) {
	for _, s := range []string{
		"", " ", "  ", "k", "k 1.0", "k 1.0 ", "1.0 x", "k x", "k 1.0 x x", "k 1.0 x ", " k 1.0 x", "k  1.0 x", "k 1.0  x",
		"k 1.0 = x", "k 1.0 =61 62", "k\t1.0\tx", "k 1.0 x\n", "\nk 1.0 x", "k 1.0\nx", "k 1.0 x\x00",
		// The Key.
		"61 1.0 x", "K61 1.0 x", "kk61 1.0 x", "=61 1.0 x", "k6 1.0 x", "k616 1.0 x", "k6g 1.0 x", "k6A 1.0 x", "kAB 1.0 x", "k0x61 1.0 x", "x 1.0 x", " 1.0 x",
		// The version.
		"k 1 x", "k . x", "k 1. x", "k .0 x", "k 1..0 x", "k 1.0.0 x", "k .1.0 x", "k 1.0. x", "k 1,0 x", "k 1:0 x", "k  x",
		"k 01.0 x", "k 1.00 x", "k 1.01 x", "k 00.0 x", "k -1.0 x", "k 1.-1 x", "k +1.0 x", "k 1.+0 x", "k a.0 x", "k 1.a x", "k 0x1.0 x", "k 1e3.0 x", "k 1_0.0 x",
		"k 099999999999999999999.0 x", "k 1.099999999999999999999 x", "k 99999999999999999999a.0 x", "k 99999999999999999999 x", "k 99999999999999999999. x",
		// The Value.
		"k 1.0 61", "k 1.0 6", "k 1.0 =6", "k 1.0 =616", "k 1.0 =6G", "k 1.0 =4F", "k 1.0 ==", "k 1.0 ==61", "k 1.0 =x", "k 1.0 x=", "k 1.0 x61", "k 1.0 xx", "k 1.0 X", "k 1.0 =-1",
		"k61 1.0 k61",
		// Of another form, and with what may not be besides: the form is told.
		"k" + strings.Repeat("61", 17) + " 1.0 X",
		"k" + strings.Repeat("61", 17) + " 1.0",
		"k 0.0 61", "k 1.8 =6", "k 0.0", "k 99999999999999999999.0 =6",
		"k 1.0 =" + strings.Repeat("61", 33) + "6",
		"k" + strings.Repeat("61", 17) + "6 1.0 x",
		strings.Repeat(" ", 100000),
		strings.Repeat("k 1.0 x ", 10000),
	} {
		if y, e := item.Parse(s); y != (api.Entry{}) || e != api.ErrText {
			t.Errorf("Parse(%q): %s, %d, want ErrText", s, told(y), e)
		}
	}
}

// P3.5, R2
func TestParseWhatMayNotBe(t *testing.T) {
	long := "k" + strings.Repeat("61", 17)
	value := " =" + strings.Repeat("61", 33)
	huge := "1" + strings.Repeat("0", 1000)
	for _, x := range []struct {
		s    string
		want api.Errno
	}{
		{long + " 1.0 x", api.ErrKey},
		{"k" + strings.Repeat("00", 5000) + " 1.0 =", api.ErrKey},

		{"k 0.0 x", api.ErrVersion},
		{"k 0.7 =", api.ErrVersion},
		{"k61 1.8 =", api.ErrVersion},
		{"k 1.10 =", api.ErrVersion},
		{"k 1099511627777.0 x", api.ErrVersion},
		{"k 9223372036854775807.0 x", api.ErrVersion},
		{"k 1.9223372036854775807 x", api.ErrVersion},
		{"k 9223372036854775808.0 x", api.ErrVersion},
		{"k 1.9223372036854775808 x", api.ErrVersion},
		// Modulo 2^64 these would be 1 and 0.
		{"k 18446744073709551617.0 x", api.ErrVersion},
		{"k 1.18446744073709551616 x", api.ErrVersion},
		{"k 99999999999999999999.0 x", api.ErrVersion},
		{"k 1.99999999999999999999 =61", api.ErrVersion},
		{"k " + huge + ".0 x", api.ErrVersion},
		{"k 1." + huge + " x", api.ErrVersion},
		{"k " + huge + "." + huge + " =", api.ErrVersion},

		{"k 1.0" + value, api.ErrValue},
		{"k61 1.0 =" + strings.Repeat("00", 5000), api.ErrValue},

		// Several are wrong: the first one of Check is told.
		{long + " 0.0" + value, api.ErrKey},
		{long + " " + huge + "." + huge + value, api.ErrKey},
		{long + " 1.8 x", api.ErrKey},
		{long + " 1.0" + value, api.ErrKey},
		{"k 0.0" + value, api.ErrVersion},
		{"k 1." + huge + value, api.ErrVersion},
		{"k " + huge + ".0" + value, api.ErrVersion},
	} {
		if y, e := item.Parse(x.s); y != (api.Entry{}) || e != x.want {
			t.Errorf("Parse(%q): %s, %d, want %d", x.s, told(y), e, x.want)
		}
	}
}

// P3.6
func TestTextsThereAndBack(t *testing.T) {
	entries := goodEntries()
	rnd := rand.New(rand.NewPCG(7, 8))
	for range 5000 {
		entries = append(entries, someEntry(rnd))
	}
	whose := map[string]api.Entry{}
	for _, x := range entries {
		s, e := item.Print(x)
		if e != api.OK {
			t.Fatalf("Print(%s): %d", told(x), e)
		}
		if y, e := item.Parse(s); y != x || e != api.OK {
			t.Fatalf("Parse(%q): %s, %d, want %s", s, told(y), e, told(x))
		}
		if y, is := whose[s]; is && y != x {
			t.Fatalf("%q is the text of %s and of %s", s, told(x), told(y))
		}
		whose[s] = x
	}
}

// checkOneText looks whether s is refused, or is the text of what is read from it.
func checkOneText(t *testing.T, s string) bool {
	t.Helper()
	x, e := item.Parse(s)
	if e != api.OK {
		if x != (api.Entry{}) {
			t.Fatalf("Parse(%q): %s beside %d", s, told(x), e)
		}
		return false
	}
	if back, e := item.Print(x); back != s || e != api.OK {
		t.Fatalf("Parse(%q): %s, whose text is %q, %d", s, told(x), back, e)
	}
	return true
}

// P3.6, R1
func TestAnyTextsBackAndThere(t *testing.T) {
	rnd := rand.New(rand.NewPCG(9, 10))
	accepted := 0
	for range 50000 {
		text, _ := item.Print(someEntry(rnd))
		if checkOneText(t, oneChanged(rnd, text, "0179afAF k=x.-+\n\x00\xff")) {
			accepted++
		}
	}
	if accepted == 0 {
		t.Error("none was an entry's")
	}
}

// P3.6
func TestAllShortTexts(t *testing.T) {
	heads := []string{"k", "k00", "k0", "K", ""}
	tails := []string{"x", "=", "=00", "=0", "X", ""}
	middles := []string{""}
	for start := 0; len(middles[start]) < 4; start++ {
		for _, letter := range []string{"0", "1", "8", ".", " ", "-"} {
			middles = append(middles, middles[start]+letter)
		}
	}
	for _, head := range heads {
		for _, middle := range middles {
			for _, tail := range tails {
				checkOneText(t, head+" "+middle+" "+tail)
			}
		}
	}
}
