package nums_test

import (
	"fmt"
	"math"
	"strings"
	"testing"

	"tideline/api"
	"tideline/nums"
)

// P1.4
func TestDigits(t *testing.T) {
	for _, x := range []struct {
		n    int
		want string
	}{
		{0, "0"},
		{7, "7"},
		{10, "10"},
		{120, "120"},
		{math.MaxInt64, "9223372036854775807"},
		{-1, "0"},
		{-5, "0"},
		{math.MinInt64, "0"},
	} {
		if got := nums.Digits(x.n); got != x.want {
			t.Errorf("Digits(%d): %q, want %q", x.n, got, x.want)
		}
	}
}

// P1.4
func TestParse(t *testing.T) {
	for _, x := range []struct {
		s    string
		most int
		want int
	}{
		{"0", 0, 0},
		{"0", math.MaxInt64, 0},
		{"9", 9, 9},
		{"10", 10, 10},
		{"100", 1000, 100},
		{"9223372036854775806", math.MaxInt64, math.MaxInt64 - 1},
		{"9223372036854775807", math.MaxInt64, math.MaxInt64},
	} {
		if n, e := nums.Parse(x.s, x.most); n != x.want || e != api.OK {
			t.Errorf("Parse(%q, %d): %d, %d, want %d", x.s, x.most, n, e, x.want)
		}
	}
}

// P1.4
func TestParseTooBig(t *testing.T) {
	for _, x := range []struct {
		s    string
		most int
	}{
		{"10", 9},
		{"1", 0},
		{"0", -1},
		{"7", -7},
		{"0", math.MinInt64},
		{"9223372036854775807", math.MaxInt64 - 1},
		{"9223372036854775808", math.MaxInt64},
		{"9223372036854775809", math.MaxInt64},
		{"10000000000000000000", math.MaxInt64},
		{"18446744073709551616", math.MaxInt64},
		{"18446744073709551621", 9},
		{"99999999999999999999", 9},
		{"1" + strings.Repeat("0", 1000), math.MaxInt64},
	} {
		if n, e := nums.Parse(x.s, x.most); n != 0 || e != api.ErrBig {
			t.Errorf("Parse(%q, %d): %d, %d, want ErrBig", x.s, x.most, n, e)
		}
	}
}

// P1.4, R7
func TestParseNoNumber(t *testing.T) {
	texts := []string{
		"", " ", "00", "007", "01", "-1", "-0", "+1", " 1", "1 ", "1\n", "1_000", "1.0", "1e3", "0x1", "a", "0a",
		"\x00", "1\x00", "١", "１",
		strings.Repeat("0", 100),
		"0" + strings.Repeat("9", 100),
		"99999999999999999999x", "x99999999999999999999", "99999999999999999999 ",
		strings.Repeat("9", 1000) + "-",
	}
	for _, s := range texts {
		for _, most := range []int{-1, 0, 9, math.MaxInt64} {
			if n, e := nums.Parse(s, most); n != 0 || e != api.ErrText {
				t.Errorf("Parse(%q, %d): %d, %d, want ErrText", s, most, n, e)
			}
		}
	}
}

// P1.4
func TestParseOfEachByte(t *testing.T) {
	for b := range 256 {
		n, e := nums.Parse(string([]byte{byte(b)}), 9)
		switch isDigit := b >= '0' && b <= '9'; {
		case isDigit && (n != b-'0' || e != api.OK):
			t.Errorf("byte %x: %d, %d", b, n, e)
		case !isDigit && (n != 0 || e != api.ErrText):
			t.Errorf("byte %x: %d, %d, want ErrText", b, n, e)
		}
		if n, e := nums.Parse(string([]byte{'1', byte(b)}), 99); (e == api.OK) != (b >= '0' && b <= '9') {
			t.Errorf("1 and byte %x: %d, %d", b, n, e)
		}
	}
}

// P1.4
func TestParseOfDigits(t *testing.T) {
	for _, n := range someNumbers() {
		if got, e := nums.Parse(nums.Digits(n), n); got != n || e != api.OK {
			t.Errorf("Parse(Digits(%d)): %d, %d", n, got, e)
		}
		if got, e := nums.Parse(nums.Digits(n), n-1); got != 0 || e != api.ErrBig {
			t.Errorf("Parse(Digits(%d)) above most: %d, %d", n, got, e)
		}
	}
}

// P1.5
func TestHex(t *testing.T) {
	for _, x := range []struct{ s, want string }{
		{"", ""},
		{"a\x00", "6100"},
		{"\x0f\xf0", "0ff0"},
		{"ü", "c3bc"},
		{"\x01\x23\x45\x67\x89\xab\xcd\xef", "0123456789abcdef"},
	} {
		if got := nums.Hex(x.s); got != x.want {
			t.Errorf("Hex(%q): %q, want %q", x.s, got, x.want)
		}
		if got, e := nums.Unhex(x.want); got != x.s || e != api.OK {
			t.Errorf("Unhex(%q): %q, %d, want %q", x.want, got, e, x.s)
		}
	}
}

// P1.5
func TestHexOfEachByte(t *testing.T) {
	all := ""
	for b := range 256 {
		s := string([]byte{byte(b)})
		all += s
		if got, want := nums.Hex(s), fmt.Sprintf("%02x", b); got != want {
			t.Errorf("Hex of byte %d: %q, want %q", b, got, want)
		}
	}
	if got, e := nums.Unhex(nums.Hex(all)); got != all || e != api.OK {
		t.Errorf("Unhex(Hex) of all bytes: %x, %d", got, e)
	}
}

// P1.5, R7
func TestUnhexOfEachPair(t *testing.T) {
	const digits = "0123456789abcdef"
	for high := range 256 {
		for low := range 256 {
			s := string([]byte{byte(high), byte(low)})
			want, wantErr := "", api.ErrText
			if h, l := strings.IndexByte(digits, byte(high)), strings.IndexByte(digits, byte(low)); h >= 0 && l >= 0 {
				want, wantErr = string([]byte{byte(16*h + l)}), api.OK
			}
			if got, e := nums.Unhex(s); got != want || e != wantErr {
				t.Errorf("Unhex(%q): %q, %d, want %q, %d", s, got, e, want, wantErr)
			}
		}
	}
}

// P1.5, R7
func TestUnhexNoBytes(t *testing.T) {
	for _, s := range []string{"6", "6G", "4F", "F4", "6 ", " 6", "61 62", "0x61", "616", "6161G0", "6161g", "61\n", "61..", "-1", "ff fe"} {
		if got, e := nums.Unhex(s); got != "" || e != api.ErrText {
			t.Errorf("Unhex(%q): %q, %d, want ErrText", s, got, e)
		}
	}
}
