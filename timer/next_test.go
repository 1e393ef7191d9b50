package timer_test

import (
	"slices"
	"testing"

	"tideline/api"
	"tideline/timer"
)

// inOrder are alarms as the chapter's words have them: by times, then Opener, Life, Number. They are written out, not sorted.
func inOrder() []alarm {
	return []alarm{
		{name(least, most, most), 0},
		{name(-1, 0, 0), 0},
		{name(0, least, most), 0},
		{name(0, -1, 9), 0},
		{name(0, 0, least), 0},
		{name(0, 0, -2), 0},
		{name(0, 0, -1), 0},
		{name(0, 0, 0), 0},
		{name(0, 0, 1), 0},
		{name(0, 0, most), 0},
		{name(0, 1, least), 0},
		{name(0, most, least), 0},
		{name(1, least, least), 0},
		{name(2, 0, 0), 0},
		{name(10, 0, 0), 0},
		{name(most, least, least), 0},
		{name(7, 7, 7), 1},
		{name(0, 9, 9), 2},
		{name(1, 1, 1), 2},
		{name(1, 1, 2), 2},
		{name(1, 2, 1), 2},
		{name(least, least, least), 1 << 32},
		{name(most, most, most), last - 1},
		{name(least, least, most), last},
		{name(most, most, least), last},
	}
}

// P15.2: of each two alarms the first one in the order is the next one, whichever was set first.
func TestNextOfTwo(t *testing.T) {
	l := inOrder()
	for i, first := range l {
		for _, second := range l[i+1:] {
			isNext(t, made(t, first, second), first)
			isNext(t, made(t, second, first), first)
		}
	}
}

// P15.2: of many, dropped one by one.
func TestNextOfMany(t *testing.T) {
	for _, turned := range []bool{false, true} {
		l := inOrder()
		if turned {
			slices.Reverse(l)
		}
		x := made(t, l...)
		for _, one := range inOrder() {
			isNext(t, x, one)
			isNext(t, x, one)
			if !x.Drop(one.name) {
				t.Fatalf("Drop(%v): false, want true", one.name)
			}
		}
		hasNone(t, x)
	}
}

// P15.2: an alarm that is set again is the next one by its last time alone.
func TestNextSetAgain(t *testing.T) {
	x := made(t, alarm{a, 5}, alarm{b, 6})
	isNext(t, x, alarm{a, 5})
	set(t, x, a, 7)
	isNext(t, x, alarm{b, 6})
	set(t, x, b, 7)
	isNext(t, x, alarm{a, 7})
	set(t, x, b, 0)
	isNext(t, x, alarm{b, 0})
	x.Drop(b)
	isNext(t, x, alarm{a, 7})
	set(t, x, a, last)
	isNext(t, x, alarm{a, last})
}

// P15.2: one alarm, whatever its name and time, is the next one; with none there are zeros.
func TestNextOfOne(t *testing.T) {
	for _, n := range odd() {
		for _, one := range []alarm{{name(n, n, n), 0}, {name(n, -n, 1), last}, {name(0, 0, n), 3}} {
			x := made(t, one)
			isNext(t, x, one)
			if !x.Drop(one.name) {
				t.Errorf("Drop(%v): false, want true", one.name)
			}
			hasNone(t, x)
		}
	}
}

// P15.2, R2: a refused Set does not make a next one.
func TestNextRefused(t *testing.T) {
	x := timer.New()
	if e := x.Set(a, -1); e != api.ErrArg {
		t.Errorf("Set(A, -1): error %d, want %d", e, api.ErrArg)
	}
	hasNone(t, x)
	set(t, x, b, 1)
	x.Set(a, -1)
	isNext(t, x, alarm{b, 1})
}
