package tree_test

import (
	"math"
	"testing"
)

// P6.3: a key without a row, also where others begin with it, or it with others.
func TestGetNone(t *testing.T) {
	x := newTexts()
	check := func(keys ...string) {
		t.Helper()
		for _, key := range keys {
			if v, is := x.Get(key); v != 0 || is {
				t.Errorf("Get(%q): %d, %t, want none", key, v, is)
			}
		}
	}
	check("", "a", "\x00", "\xff")
	x.Put("ab", 5, "s")
	check("", "a", "abc", "ab\x00", "aa", "ac", "AB", "\x00", "\xff")
	fill(x, lines(numbered(50)))
	check("", "a", "abc", "ab\x00", "\x00\x00", "\x00\x00\x32", "\xff")
	if v, is := x.Get("ab"); v != 5 || !is {
		t.Errorf("Get(ab): %d, %t, want 5, true", v, is)
	}
}

// P6.3: a number without a row.
func TestAtNone(t *testing.T) {
	for _, n := range []int{0, 1, 2, 3, 7, 8, 50} {
		x := newTexts()
		fill(x, lines(numbered(n)))
		for _, i := range []int{-1, -2, -n, n, n + 1, 2*n + 1, 1 << 32, -1 << 32, math.MinInt, math.MaxInt} {
			if n > 0 && i == 0 {
				continue
			}
			if key, v, is := x.At(i); key != "" || v != 0 || is {
				t.Errorf("At(%d) of %d: %q, %d, %t, want none", i, n, key, v, is)
			}
		}
	}
}

// P6.3: keys in their order by bytes, not by letters or numbers.
func TestRankByBytes(t *testing.T) {
	rising := []string{"", "\x00", "\x00\x00", "\x00\xff", "10", "9", "A", "a", "a\x00", "aa", "ab", "b", "\x7f", "\x80", "ä", "€", "\xff", "\xff\x00", "\xff\xff"}
	for _, o := range orders() {
		x := newTexts()
		fill(x, inOrder(lines(rising), o.numbers(len(rising))))
		for i, key := range rising {
			if got := x.Rank(key); got != i {
				t.Errorf("%s: Rank(%q): %d, want %d", o.name, key, got, i)
			}
			if got, v, is := x.At(i); got != key || v != i+1 || !is {
				t.Errorf("%s: At(%d): %q, %d, %t, want %q, %d", o.name, i, got, v, is, key, i+1)
			}
		}
	}
}

// P6.3: Rank tells of keys without a row too, and puts none.
func TestRankOfNone(t *testing.T) {
	x := newTexts()
	keys := []string{"b", "d", "f", "h"}
	p := fill(x, lines(keys))
	for key, want := range map[string]int{
		"": 0, "a": 0, "az": 0, "b": 0, "b\x00": 1, "c": 1, "d": 1, "e": 2, "f": 2, "ff": 3, "g": 3, "h": 3, "h\x00": 4, "z": 4, "\xff\xff": 4,
	} {
		if got := x.Rank(key); got != want {
			t.Errorf("Rank(%q): %d, want %d", key, got, want)
		}
	}
	same(t, x, p)
}

// P6.3, P6.8: a great tree.
func TestReadsOfMany(t *testing.T) {
	keys := numbered(10000)
	for _, o := range orders() {
		x := newFilled(o, len(keys))
		if got := x.Len(); got != len(keys) {
			t.Fatalf("%s: Len %d, want %d", o.name, got, len(keys))
		}
		for i, key := range keys {
			if v, is := x.Get(key); v != i || !is {
				t.Fatalf("%s: Get of key %d: %d, %t", o.name, i, v, is)
			}
			at, v, is := x.At(i)
			if at != key || v != i || !is {
				t.Fatalf("%s: At(%d): %q, %d, %t", o.name, i, at, v, is)
			}
			if got := x.Rank(at); got != i {
				t.Fatalf("%s: Rank of key %d: %d", o.name, i, got)
			}
			if got := x.Rank(key + "\x00"); got != i+1 {
				t.Fatalf("%s: Rank behind key %d: %d", o.name, i, got)
			}
		}
	}
}
