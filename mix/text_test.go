package mix_test

import (
	"fmt"
	"math/rand/v2"
	"strings"
	"testing"

	"tideline/api"
	"tideline/mix"
)

// P4.4
func TestTexts(t *testing.T) {
	for _, x := range []struct {
		s    api.Sum
		text string
	}{
		{api.Sum{}, "00000000000000000000000000000000"},
		{api.Sum{most, most}, "ffffffffffffffffffffffffffffffff"},
		{api.Sum{most, most - 1}, "fffffffffffffffffffffffffffffffe"},
		{api.Sum{1, 0}, "00000000000000010000000000000000"},
		{api.Sum{0, 1}, "00000000000000000000000000000001"},
		{api.Sum{1 << 63, 0}, "80000000000000000000000000000000"},
		{api.Sum{15, 1 << 63}, "000000000000000f8000000000000000"},
		{api.Sum{0x0123456789abcdef, 0xfedcba9876543210}, "0123456789abcdeffedcba9876543210"},
		{api.Sum{0x935aaef53b422411, 0x13804f825c758b96}, "935aaef53b42241113804f825c758b96"},
	} {
		if text := mix.Print(x.s); text != x.text {
			t.Errorf("Print(%x): %q, want %q", x.s, text, x.text)
		}
		if s, e := mix.Parse(x.text); s != x.s || e != api.OK {
			t.Errorf("Parse(%q): %x, %d, want %x", x.text, s, e, x.s)
		}
	}
}

// P4.4
func TestTextsThereAndBack(t *testing.T) {
	rnd := rand.New(rand.NewPCG(4, 4))
	sums := anySums()
	for range 2000 {
		sums = append(sums, someSum(rnd))
	}
	for _, s := range sums {
		text := mix.Print(s)
		if want := fmt.Sprintf("%016x%016x", s[0], s[1]); text != want {
			t.Fatalf("Print(%x): %q, want %q", s, text, want)
		}
		if back, e := mix.Parse(text); back != s || e != api.OK {
			t.Fatalf("Parse(%q): %x, %d", text, back, e)
		}
	}
}

// P4.4, R2, R7
func TestParseWrong(t *testing.T) {
	good := "0123456789abcdeffedcba9876543210"
	wrong := []string{
		"", " ", "0", "f", "OK",
		good[:16], good[:30], good[:31], good + "0", good + "00", good + good,
		strings.Repeat("0", 31), strings.Repeat("0", 33), strings.Repeat("f", 34), strings.Repeat("0", 64), strings.Repeat("0", 1000000),
		// Of 32 bytes, and otherwise written.
		strings.ToUpper(good), good[:31] + "A", "F" + good[1:], good[:16] + "E" + good[17:],
		"+" + good[1:], "-" + good[1:], good[:16] + "+" + good[17:], good[:16] + "-" + good[17:],
		" " + good[1:], good[:31] + " ", good[:31] + "\n", good[:31] + "\t", "0x" + good[2:], good[:16] + "0x" + good[18:], good[:30] + "0x",
		good[:31] + "g", "g" + good[1:], good[:15] + "_" + good[16:], good[:15] + "." + good[16:], good[:31] + "\x00", good[:31] + "/", good[:31] + ":", good[:31] + "`", good[:31] + "@", good[:31] + "G",
		// Digits, with a sign or a blank beside them.
		" " + good, good + " ", good + "\n", "\n" + good, "+" + good, "-" + good, "0x" + good, good[:16] + " " + good[16:], good[:16] + "," + good[16:],
		// No UTF-8, and letters of several bytes.
		strings.Repeat("\xff", 32), good[:31] + "\xff", "\x80" + good[1:], good[:30] + "\xc3\x28", strings.Repeat("ä", 16), strings.Repeat("٠", 16), strings.Repeat("０", 32), strings.Repeat("0", 29) + "０",
	}
	for _, text := range wrong {
		if s, e := mix.Parse(text); s != (api.Sum{}) || e != api.ErrText {
			t.Errorf("Parse(%.40q of %d bytes): %x, %d, want ErrText", text, len(text), s, e)
		}
	}
}

// P4.4, R2: each byte at each place.
func TestParseEachByte(t *testing.T) {
	good := "0123456789abcdeffedcba9876543210"
	for at := range len(good) {
		for b := range 256 {
			text := good[:at] + string([]byte{byte(b)}) + good[at+1:]
			isDigit := b < 128 && strings.Contains("0123456789abcdef", string(rune(b)))
			s, e := mix.Parse(text)
			if isDigit && (e != api.OK || mix.Print(s) != text) {
				t.Errorf("Parse(%q): %x, %d", text, s, e)
			}
			if !isDigit && (e != api.ErrText || s != (api.Sum{})) {
				t.Errorf("Parse(%q): %x, %d, want ErrText", text, s, e)
			}
		}
	}
}

// P4.4, R2: no text of another length is a Sum's.
func TestParseEachLength(t *testing.T) {
	for n := range 100 {
		s, e := mix.Parse(strings.Repeat("1", n))
		if n == 32 {
			if e != api.OK || s != (api.Sum{0x1111111111111111, 0x1111111111111111}) {
				t.Errorf("Parse of %d digits: %x, %d", n, s, e)
			}
		} else if e != api.ErrText || s != (api.Sum{}) {
			t.Errorf("Parse of %d digits: %x, %d, want ErrText", n, s, e)
		}
	}
}
