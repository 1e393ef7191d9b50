package timer_test

import (
	"slices"
	"testing"

	"tideline/api"
	"tideline/timer"
)

// P15.3: which are due, at the ends of what may be asked, and next to each alarm's time.
func TestDue(t *testing.T) {
	five, late := alarm{a, 5}, alarm{name(3, 1, 1), last}
	zero, six := alarm{name(9, 9, 9), 0}, alarm{b, 6}
	for _, x := range []struct {
		set  []alarm
		now  int
		want []alarm
	}{
		{nil, least, nil},
		{nil, 0, nil},
		{nil, most, nil},
		{[]alarm{five}, least, nil},
		{[]alarm{five}, -1, nil},
		{[]alarm{five}, 0, nil},
		{[]alarm{five}, 4, nil},
		{[]alarm{five}, 5, []alarm{five}},
		{[]alarm{five}, 6, []alarm{five}},
		{[]alarm{five}, 5 + 1<<32, []alarm{five}},
		{[]alarm{zero}, least, nil},
		{[]alarm{zero}, -1, nil},
		{[]alarm{zero}, 0, []alarm{zero}},
		{[]alarm{late}, 0, nil},
		{[]alarm{late}, last - 1, nil},
		{[]alarm{late}, last, []alarm{late}},
		{[]alarm{late}, last + 1, []alarm{late}},
		{[]alarm{late}, most, []alarm{late}},
		{[]alarm{six, late, zero, five}, -1, nil},
		{[]alarm{six, late, zero, five}, 0, []alarm{zero}},
		{[]alarm{six, late, zero, five}, 4, []alarm{zero}},
		{[]alarm{six, late, zero, five}, 5, []alarm{zero, five}},
		{[]alarm{six, late, zero, five}, 6, []alarm{zero, five, six}},
		{[]alarm{six, late, zero, five}, last - 1, []alarm{zero, five, six}},
		{[]alarm{six, late, zero, five}, last, []alarm{zero, five, six, late}},
		{[]alarm{six, late, zero, five}, most, []alarm{zero, five, six, late}},
	} {
		alarms := made(t, x.set...)
		isDue(t, alarms, x.now, x.want...)
		isSame(t, alarms, x.set)
	}
}

// P15.3: the order, in which way ever the alarms were set.
func TestDueOrder(t *testing.T) {
	want := inOrder()
	turned := slices.Clone(want)
	slices.Reverse(turned)
	for shift := range want {
		for _, l := range [][]alarm{want, turned} {
			x := made(t, slices.Concat(l[shift:], l[:shift])...)
			isDue(t, x, most, want...)
			isDue(t, x, last, want...)
			isDue(t, x, last-1, want[:len(want)-2]...)
			isDue(t, x, 0, want[:16]...)
			isDue(t, x, -1)
		}
	}
}

// P15.3: alarms of one time, whose names differ in any of their fields, stand as frame.CompareNames has them.
func TestDueOfOneTime(t *testing.T) {
	var all plain
	for _, opener := range odd() {
		for _, life := range []int{least, -1, 0, 1, most} {
			for _, number := range []int{least, -1, 0, 1, most} {
				all = append(all, alarm{name(opener, life, number), 3})
			}
		}
	}
	x := made(t, all...)
	isDue(t, x, 2)
	isDue(t, x, 3, all.due(3)...)
	isNext(t, x, all.due(3)[0])
}

// P15.3: what is due is dropped by Drop alone, and an alarm that was put off is due later.
func TestDueSetAgain(t *testing.T) {
	x := made(t, alarm{a, 1}, alarm{b, 2})
	isDue(t, x, 2, alarm{a, 1}, alarm{b, 2})
	set(t, x, a, 3)
	isDue(t, x, 2, alarm{b, 2})
	isDue(t, x, 3, alarm{b, 2}, alarm{a, 3})
	set(t, x, b, 3)
	isDue(t, x, 2)
	isDue(t, x, 3, alarm{a, 3}, alarm{b, 3})
	set(t, x, b, 0)
	isDue(t, x, 0, alarm{b, 0})
	x.Drop(b)
	isDue(t, x, 0)
	isDue(t, x, 3, alarm{a, 3})
	set(t, x, b, 3)
	isDue(t, x, 3, alarm{a, 3}, alarm{b, 3})
	x.Set(a, last+1)
	isDue(t, x, most, alarm{a, 3}, alarm{b, 3})
}

// P15.3: one tick behind the other, with what is due dropped, as one does who waits.
func TestDueTickByTick(t *testing.T) {
	x := timer.New()
	for i := range 100 {
		set(t, x, name(i%8, 1, i), i)
	}
	for now := range 100 {
		for n, at := range x.Due(now) {
			if at != now || n != name(now%8, 1, now) {
				t.Fatalf("Due(%d): %v", now, alarm{n, at})
			}
			if !x.Drop(n) {
				t.Fatalf("Drop(%v): false, want true", n)
			}
		}
		if n := x.Len(); n != 99-now {
			t.Fatalf("Len() behind %d ticks: %d, want %d", now, n, 99-now)
		}
	}
}

// P15.1, P15.2, P15.3: Due, Next, At and Len change nothing, however often they are asked.
func TestAskingChangesNothing(t *testing.T) {
	want := plain(inOrder())
	x := made(t, want...)
	for _, one := range want {
		for _, now := range []int{least, -1, 0, one.at, most} {
			gone(x.Due(now))
		}
		x.Next()
		x.Len()
		x.At(one.name)
		x.At(name(one.name.Opener, 3, 3))
	}
	isSame(t, x, want)
	isNot(t, x, name(0, 3, 3))
	if x.Drop(api.Name{Life: 3, Number: 3}) {
		t.Error("Drop of a name that was just asked for: true, want false")
	}
}
