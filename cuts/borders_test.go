package cuts_test

import (
	"math/rand/v2"
	"slices"
	"testing"

	"tideline/api"
	"tideline/cuts"
)

// P7.2
func TestBorders(t *testing.T) {
	for _, x := range []struct {
		keys  []string
		parts int
		want  []string
	}{
		{[]string{"a", "b", "c", "d", "e", "f", "g"}, 3, []string{"c", "e"}},
		{[]string{"a", "b", "c", "d", "e"}, 2, []string{"c"}},
		{[]string{"a", "b", "c", "d", "e"}, 1, nil},
		{[]string{"a", "b", "c", "d", "e"}, 5, []string{"b", "c", "d", "e"}},
		{[]string{"a"}, 1, nil},
		{[]string{""}, 1, nil},
		{[]string{highest}, 1, nil},
		{[]string{"", "\x00"}, 2, []string{"\x00"}},
		{[]string{"a", "aa"}, 2, []string{"aa"}},
		{[]string{"a", "a\x00", "aa"}, 3, []string{"a\x00", "aa"}},
		{[]string{"k", long}, 2, []string{long}},
		{[]string{"\x00", lowest, "\xFF", highest}, 2, []string{"\xFF"}},
		{[]string{"\x7F", "\x80"}, 2, []string{"\x80"}},
		{samples(), 13, samples()[1:]},
	} {
		if l, e := cuts.Borders(x.keys, x.parts); e != api.OK || !slices.Equal(l, x.want) {
			t.Errorf("Borders(%q, %d): %q, %d, want %q", x.keys, x.parts, l, e, x.want)
		}
	}
}

// P7.2
func TestBordersAtEveryNumber(t *testing.T) {
	dice := rand.New(rand.NewPCG(7, 2))
	for _, n := range []int{1, 2, 3, 15, 16, 17, 100, 255, 256} {
		keys := anyKeys(dice, n)
		for parts := 1; parts <= n; parts++ {
			var want []string
			for _, part := range partsOf(keys, parts)[1:] {
				want = append(want, part[0])
			}
			if l, e := cuts.Borders(keys, parts); e != api.OK || !slices.Equal(l, want) {
				t.Fatalf("Borders of %d keys, %d parts: %q, %d, want %q", n, parts, l, e, want)
			}
		}
	}
}

// P7.2, R2
func TestBordersWrong(t *testing.T) {
	for _, x := range []struct {
		keys  []string
		parts int
		want  api.Errno
	}{
		{[]string{tooLong}, 1, api.ErrKey},
		{[]string{"a", tooLong}, 2, api.ErrKey},
		{[]string{"a", "b", highest + "\xFF"}, 2, api.ErrKey},
		{[]string{"b", "a"}, 1, api.ErrBorder},
		{[]string{"a", "a"}, 2, api.ErrBorder},
		{[]string{"", ""}, 1, api.ErrBorder},
		{[]string{"aa", "a"}, 2, api.ErrBorder},
		{[]string{"\x80", "\x7F"}, 2, api.ErrBorder},
		{[]string{"a", "c", "b", "d"}, 2, api.ErrBorder},
		{[]string{"a", "b", "c", "c"}, 2, api.ErrBorder},
		{nil, 0, api.ErrArg},
		{nil, 1, api.ErrArg},
		{[]string{}, 1, api.ErrArg},
		{[]string{"a"}, 0, api.ErrArg},
		{[]string{"a"}, 2, api.ErrArg},
		{[]string{"a"}, -1, api.ErrArg},
		{manyKeys(257), 2, api.ErrArg},
		// Two at once: the one that is named first is told, wherever it stands.
		{[]string{"b", "a", tooLong}, 2, api.ErrKey},
		{[]string{tooLong, "b", "a"}, 2, api.ErrKey},
		{[]string{tooLong, tooLong}, 2, api.ErrKey},
		{[]string{tooLong}, 0, api.ErrKey},
		{[]string{"a", tooLong}, 3, api.ErrKey},
		{append(manyKeys(256), tooLong), 1, api.ErrKey},
		{[]string{"b", "a"}, 9, api.ErrBorder},
		{[]string{"b", "b"}, 0, api.ErrBorder},
		{append(manyKeys(256), "a"), 1, api.ErrBorder},
		{[]string{"b", "a", tooLong}, -1, api.ErrKey},
	} {
		if l, e := cuts.Borders(x.keys, x.parts); e != x.want || len(l) != 0 {
			t.Errorf("Borders(%q, %d): %q, %d, want %d", x.keys, x.parts, l, e, x.want)
		}
	}
}

// P7.2, R1, R2
func TestBordersWrongNumbers(t *testing.T) {
	for _, n := range []int{0, 1, 2, 255, 256, 257, 300} {
		keys := manyKeys(n)
		for _, parts := range append(outside(1, n), outside(1, 256)...) {
			if l, e := cuts.Borders(keys, parts); e != api.ErrArg || len(l) != 0 {
				t.Errorf("Borders of %d keys, %d parts: %q, %d, want ErrArg", n, parts, l, e)
			}
		}
	}
}

// P7.2, R2
func TestBordersAllSamples(t *testing.T) {
	for _, keys := range keyLists() {
		for parts := -1; parts <= 4; parts++ {
			l, e := cuts.Borders(keys, parts)
			if want := bordersError(keys, parts); e != want {
				t.Fatalf("Borders(%q, %d): %d, want %d", keys, parts, e, want)
			}
			if e == api.OK && len(l) != parts-1 || e != api.OK && len(l) != 0 {
				t.Fatalf("Borders(%q, %d): %q, %d", keys, parts, l, e)
			}
		}
	}
}

// R3
func TestBordersAreNew(t *testing.T) {
	room := []string{"a", "b", "c", "d", "y", "x"}
	first, _ := cuts.Borders(room[:4], 4)
	second, _ := cuts.Borders(room[:4], 4)
	spoil(first, "z")
	if !slices.Equal(room, []string{"a", "b", "c", "d", "y", "x"}) {
		t.Errorf("the keys are %q now", room)
	}
	spoil(room, "q")
	if !slices.Equal(second, []string{"b", "c", "d"}) {
		t.Errorf("the borders are %q now", second)
	}
}
