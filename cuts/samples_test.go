package cuts_test

import (
	"math"
	"math/rand/v2"
	"slices"
	"strings"

	"tideline/api"
)

var (
	lowest  = strings.Repeat("\x00", 16)
	highest = strings.Repeat("\xFF", 16) // no key is above it
	long    = strings.Repeat("k", 16)
	tooLong = strings.Repeat("k", 17)
)

func whole() api.Range { return api.Range{Open: true} }

func rng(lo, hi string) api.Range { return api.Range{Lo: lo, Hi: hi} }

func from(lo string) api.Range { return api.Range{Lo: lo, Open: true} }

func openTo(lo, hi string) api.Range { return api.Range{Lo: lo, Hi: hi, Open: true} }

// samples are keys, rising, with those that lie side by side at the edges.
func samples() []string {
	return []string{"", "\x00", "\x00\x00", lowest, "a", "a\x00", "aa", "b", long, "\xFF", "\xFF\x00", "\xFF\xFF", highest}
}

// manyKeys are n keys, rising, of 3 letters each.
func manyKeys(n int) []string {
	var l []string
	for i := range n {
		l = append(l, string([]byte{'a' + byte(i/100), 'a' + byte(i/10%10), 'a' + byte(i%10)}))
	}
	return l
}

// anyKeys are n keys, rising, of any length that a key may have.
func anyKeys(dice *rand.Rand, n int) []string {
	var l []string
	for len(l) < n {
		key := make([]byte, dice.IntN(17))
		for i := range key {
			key[i] = []byte{0, 1, 'a', 254, 255}[dice.IntN(5)]
		}
		if at, found := slices.BinarySearch(l, string(key)); !found {
			l = slices.Insert(l, at, string(key))
		}
	}
	return l
}

// outside are numbers around those from lo to hi, none of them among these.
func outside(lo, hi int) []int {
	return []int{lo - 1, lo - 2, lo - 1000, math.MinInt32, math.MinInt, math.MinInt + 1, hi + 1, hi + 2, hi + 1000, math.MaxInt32, math.MaxInt - 1, math.MaxInt}
}

// below goes byte by byte, as the Words tell which of two texts is the lower one.
func below(a, b string) bool {
	for i := 0; i < len(a) && i < len(b); i++ {
		if a[i] != b[i] {
			return a[i] < b[i]
		}
	}
	return len(a) < len(b)
}

func isIn(r api.Range, key string) bool {
	return !below(key, r.Lo) && (r.Open || below(key, r.Hi))
}

// wholePart is that of a / b, found without dividing.
func wholePart(a, b int) int {
	n := 0
	for (n+1)*b <= a {
		n++
	}
	return n
}

// partsOf lays keys out in so many parts, by the words of P7.1.
func partsOf(keys []string, parts int) [][]string {
	l := make([][]string, parts)
	for j := range l {
		l[j] = keys[wholePart(j*len(keys), parts):wholePart((j+1)*len(keys), parts)]
	}
	return l
}

// bordersError is what the words of P7.2 name first of what is wrong.
func bordersError(keys []string, parts int) api.Errno {
	e := keysError(keys)
	if e == api.OK && (len(keys) < 1 || len(keys) > 256 || parts < 1 || parts > len(keys)) {
		e = api.ErrArg
	}
	return e
}

func keysError(keys []string) api.Errno {
	for _, key := range keys {
		if len(key) > 16 {
			return api.ErrKey
		}
	}
	for i := range keys {
		if i > 0 && !below(keys[i-1], keys[i]) {
			return api.ErrBorder
		}
	}
	return api.OK
}

// rangesError is what the words of P7.3 name first of what is wrong.
func rangesError(r api.Range, keys []string, parts int) api.Errno {
	if len(r.Lo) > 16 || len(r.Hi) > 16 {
		return api.ErrKey
	}
	if r.Open && r.Hi != "" || !r.Open && below(r.Hi, r.Lo) {
		return api.ErrRange
	}
	if e := keysError(keys); e != api.OK {
		return e
	}
	for _, key := range keys {
		if !isIn(r, key) {
			return api.ErrBorder
		}
	}
	return bordersError(keys, parts)
}

// keyLists are all lists of at most three of the samples, and of a text that is no key.
func keyLists() [][]string {
	l := [][]string{nil}
	for at := 0; at < len(l) && len(l[at]) < 3; at++ {
		for _, key := range append(samples(), tooLong) {
			l = append(l, append(slices.Clone(l[at]), key))
		}
	}
	return l
}
