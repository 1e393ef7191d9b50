package span_test

import (
	"strings"

	"tideline/api"
)

var (
	highest = strings.Repeat("\xFF", 16) // no key is above it
	long    = strings.Repeat("k", 16)
	tooLong = strings.Repeat("k", 17)
)

func rng(lo, hi string) api.Range { return api.Range{Lo: lo, Hi: hi} }

func from(lo string) api.Range { return api.Range{Lo: lo, Open: true} }

func openTo(lo, hi string) api.Range { return api.Range{Lo: lo, Hi: hi, Open: true} }

// samples are keys, rising, with those that lie side by side at the edges.
func samples() []string {
	return []string{"", "\x00", "\x00\x00", "a", "a\x00", "aa", "b", long, "\xFF", highest}
}

// sampleRanges are all ranges between the samples, and between them and a text that is no key: those too that may not be.
func sampleRanges() []api.Range {
	var l []api.Range
	bounds := append(samples(), tooLong)
	for _, lo := range bounds {
		for _, hi := range bounds {
			l = append(l, rng(lo, hi), openTo(lo, hi))
		}
	}
	return l
}

// below goes byte by byte, as the Words tell which of two texts is the lower one.
func below(a, b string) bool {
	for i := 0; i < len(a) && i < len(b); i++ {
		if a[i] != b[i] {
			return a[i] < b[i]
		}
	}
	return len(a) < len(b)
}

func possible(r api.Range) bool {
	if len(r.Lo) > 16 || len(r.Hi) > 16 {
		return false
	}
	if r.Open {
		return r.Hi == ""
	}
	return !below(r.Hi, r.Lo)
}

// sampleSet tells which of the samples are in r. Ranges between samples have the same keys if and only if these are the same: each Lo is a sample, and so is the highest key of all.
func sampleSet(r api.Range) [10]bool {
	var set [10]bool
	for i, key := range samples() {
		set[i] = possible(r) && !below(key, r.Lo) && (r.Open || below(key, r.Hi))
	}
	return set
}
