package timer_test

import (
	"slices"
	"testing"

	"tideline/api"
	"tideline/timer"
)

var c = name(2, 1, 1)

// four are alarms in their order.
func four() []alarm { return []alarm{{b, 1}, {a, 2}, {c, 2}, {name(-1, 0, 0), 7}} }

// changes are what may be done to the alarms: other times, more of them, fewer, none, and all of them again.
func changes() []func(x *timer.Timer) {
	return []func(x *timer.Timer){
		func(x *timer.Timer) { x.Set(b, 9) },
		func(x *timer.Timer) { x.Set(b, 0) },
		func(x *timer.Timer) { x.Set(name(-1, 0, 0), 0) },
		func(x *timer.Timer) { x.Set(name(0, 0, 0), 0) },
		func(x *timer.Timer) { x.Set(name(0, 1, 3), 2) },
		func(x *timer.Timer) { x.Drop(a) },
		func(x *timer.Timer) { x.Drop(b) },
		func(x *timer.Timer) { x.Drop(c) },
		func(x *timer.Timer) {
			for n := range x.Due(most) {
				x.Drop(n)
			}
		},
		func(x *timer.Timer) {
			for n := range x.Due(most) {
				x.Drop(n)
				x.Set(n, 4)
			}
		},
		func(x *timer.Timer) {
			for i := range 300 {
				x.Set(name(i, -i, i), i%5)
			}
		},
	}
}

// P15.3, R6: what was there when Due was asked is told, whatever is done ahead of ranging over it.
func TestDueOfBefore(t *testing.T) {
	for i, change := range changes() {
		x := made(t, four()...)
		all, some, none := x.Due(most), x.Due(2), x.Due(0)
		change(x)
		for range 2 {
			if l := gone(all); !slices.Equal(l, four()) {
				t.Errorf("change %d: all are %v, want %v", i, l, four())
			}
			if l := gone(some); !slices.Equal(l, four()[:3]) {
				t.Errorf("change %d: due at 2 are %v, want %v", i, l, four()[:3])
			}
			if l := gone(none); len(l) != 0 {
				t.Errorf("change %d: due at 0 are %v, want none", i, l)
			}
		}
	}
}

// P15.3, R6: and whatever is done in the midst of it, at each place; the timer itself has changed.
func TestDueInTheMidst(t *testing.T) {
	for i, change := range changes() {
		for place := range four() {
			x, y := made(t, four()...), made(t, four()...)
			var l []alarm
			for n, at := range x.Due(most) {
				if len(l) == place {
					change(x)
				}
				l = append(l, alarm{n, at})
			}
			if !slices.Equal(l, four()) {
				t.Errorf("change %d at %d: %v, want %v", i, place, l, four())
			}
			change(y)
			isSame(t, x, gone(y.Due(most)))
		}
	}
}

// P15.3, R6: an alarm that is set within the loop to a time that is due is not told by that loop; this ends.
func TestDueSetsItself(t *testing.T) {
	x := made(t, four()...)
	told := 0
	for n, at := range x.Due(most) {
		told++
		if told > 4 {
			t.Fatal("more is told than there was")
		}
		set(t, x, n, at+1)
		set(t, x, name(n.Opener, n.Life, n.Number+100), at)
	}
	if told != 4 || x.Len() != 8 {
		t.Errorf("%d were told, and there are %d, want 4 and 8", told, x.Len())
	}
}

// P15.3, R6: of a timer without alarms, too.
func TestDueOfNone(t *testing.T) {
	x := timer.New()
	rows := x.Due(most)
	set(t, x, a, 0)
	if l := gone(rows); len(l) != 0 {
		t.Errorf("asked for ahead of the first Set: %v, want none", l)
	}
	rows = x.Due(most)
	x.Drop(a)
	for range 2 {
		if l := gone(rows); !slices.Equal(l, []alarm{{a, 0}}) {
			t.Errorf("asked for ahead of Drop: %v, want A at 0", l)
		}
	}
}

// R6: it is left early at every place, and tells all from the beginning on when it is ranged over again.
func TestDueLeftEarly(t *testing.T) {
	x := made(t, inOrder()...)
	rows := x.Due(most)
	for place := range inOrder() {
		var l []alarm
		for n, at := range rows {
			l = append(l, alarm{n, at})
			if len(l) == place+1 {
				break
			}
		}
		if !slices.Equal(l, inOrder()[:place+1]) {
			t.Errorf("left at %d: %v, want %v", place, l, inOrder()[:place+1])
		}
		if l := gone(rows); !slices.Equal(l, inOrder()) {
			t.Errorf("behind one that was left at %d: %v, want %v", place, l, inOrder())
		}
	}
	isSame(t, x, inOrder())
}

// R6: whoever has said that it is enough is not called any more.
func TestDueStops(t *testing.T) {
	rows := made(t, four()...).Due(most)
	for enough := range 4 {
		called := 0
		rows(func(api.Name, int) bool {
			called++
			return called <= enough
		})
		if called != enough+1 {
			t.Errorf("called %d times, want %d", called, enough+1)
		}
	}
}

// R6: within itself, and within another one of the same timer.
func TestDueWithinItself(t *testing.T) {
	x := made(t, four()...)
	rows, others := x.Due(most), x.Due(2)
	var l []alarm
	for n, at := range rows {
		if inner := gone(rows); !slices.Equal(inner, four()) {
			t.Errorf("within itself at %v: %v, want %v", n, inner, four())
		}
		for range others {
			for range rows {
				break
			}
		}
		if inner := gone(others); !slices.Equal(inner, four()[:3]) {
			t.Errorf("within another one at %v: %v, want %v", n, inner, four()[:3])
		}
		l = append(l, alarm{n, at})
	}
	if !slices.Equal(l, four()) {
		t.Errorf("with others in it: %v, want %v", l, four())
	}
}

// P15.1, P15.2, P15.3: the others may be asked in the midst, and tell what is so then.
func TestAskedInTheMidst(t *testing.T) {
	x := made(t, four()...)
	want := plain(four())
	for n := range x.Due(most) {
		isSame(t, x, want)
		x.Drop(n)
		want = want.drop(n)
		isNot(t, x, n)
		isSame(t, x, want)
	}
	hasNone(t, x)
}

// R3: what one iterator has told is not another one's, nor another timer's.
func TestDueOfTwoTimers(t *testing.T) {
	x, y := made(t, four()...), made(t, alarm{a, 3})
	one, other := x.Due(most), y.Due(most)
	set(t, y, b, 0)
	x.Drop(b)
	if l := gone(one); !slices.Equal(l, four()) {
		t.Errorf("the first timer's: %v, want %v", l, four())
	}
	if l := gone(other); !slices.Equal(l, []alarm{{a, 3}}) {
		t.Errorf("the second timer's: %v, want A at 3", l)
	}
}
