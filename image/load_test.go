package image_test

import (
	"slices"
	"testing"

	"tideline/api"
	"tideline/image"
)

// P10.2: the chapter's rows.
func TestLoadExamples(t *testing.T) {
	sample{3, 0, nil}.is(t, load(t, first))
	sample{3, 2, []api.Entry{entry("a", 1, 3, "bc"), dead("b", 2, 3)}}.is(t, load(t, second))
	for what, b := range map[string]string{
		"nothing":                   "",
		"the first row and 00":      first + "\x00",
		"the node 08":               "\x04tide\x08\x00\x00",
		"80 00 for the node":        "\x04tide\x80\x00\x00\x00",
		"the clock 01":              "\x04tide\x03\x01\x02\x01a\x01\x03\x00\x02bc\x01b\x02\x03\x01",
		"both the other way round":  "\x04tide\x03\x02\x02\x01b\x02\x03\x01\x01a\x01\x03\x00\x02bc",
		"the second row, one short": second[:len(second)-1],
	} {
		refused(t, what, b)
	}
	if s, e := image.Load(nil); s != nil || e != api.ErrImage {
		t.Errorf("Load(nil): %v, %d", s, e)
	}
}

// P10.2: of stores of all sorts, their bytes laid down by hand.
func TestLoad(t *testing.T) {
	for _, x := range samples() {
		x.is(t, load(t, x.image()))
	}
}

// P10.2: a clock that is just the greatest Counter, and one above it; what is written goes on from the clock.
func TestLoadClock(t *testing.T) {
	for _, clock := range stretch()[1:] {
		for _, counter := range []int{1, (clock + 1) / 2, clock} {
			s := load(t, sample{5, clock, []api.Entry{entry("a", counter, 0, "")}}.image())
			v, e := s.Put("b", "")
			switch {
			case clock == greatest && (v != api.Version{} || e != api.ErrWorn):
				t.Errorf("Put with the greatest clock: %v, %d", v, e)
			case clock < greatest && (v != version(clock+1, 5) || e != api.OK):
				t.Errorf("Put with the clock %d: %v, %d", clock, v, e)
			}
		}
	}
}

// P10.2, R3: the bytes are not changed, nor what lies behind their length, neither by Load nor by what is done to the store.
func TestLoadChangesNothing(t *testing.T) {
	wrong := []string{"", "\x04tidf", first + "\x00", second[:len(second)-1]}
	for _, x := range samples() {
		wrong = append(wrong, x.image()+"\x00")
		b := roomy(x.image())
		was := slices.Clone(b[:cap(b)])
		s, _ := image.Load(b)
		s.Put("a", "changed")
		s.Delete("")
		s.Take(dead("aa", greatest, 7))
		if !slices.Equal(b[:cap(b)], was) {
			t.Fatalf("Load(%s) changed the bytes", short(x.image()))
		}
	}
	for _, w := range wrong {
		b := roomy(w)
		was := slices.Clone(b[:cap(b)])
		if s, e := image.Load(b); s != nil || e != api.ErrImage {
			t.Fatalf("Load(%s): a store %t, %d", short(w), s != nil, e)
		}
		if !slices.Equal(b[:cap(b)], was) {
			t.Fatalf("Load(%s) changed the bytes", short(w))
		}
	}
}

// P10.2, R3: nothing of the bytes is kept: they are changed afterwards.
func TestLoadKeepsNothing(t *testing.T) {
	for _, x := range samples() {
		b := roomy(x.image())
		s, _ := image.Load(b)
		spoil(b)
		x.is(t, s)
		if again := put(t, s); string(again) != x.image() {
			t.Fatalf("Put behind the bytes' change: %s, want %s", short(string(again)), short(x.image()))
		}
	}
}

// R3, R5: two stores of the same bytes have nothing in common.
func TestLoadIsApart(t *testing.T) {
	for _, x := range samples() {
		b := []byte(x.image())
		one, _ := image.Load(b)
		two, _ := image.Load(b)
		if one == two {
			t.Fatal("one store twice")
		}
		for _, key := range append(oddKeys(), "k\x00\x07", "new") {
			one.Put(key, "changed")
			one.Delete(key)
			one.Take(entry(key, greatest, 7, "taken"))
		}
		x.is(t, two)
		three, _ := image.Load(b)
		x.is(t, three)
	}
}
