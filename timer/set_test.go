package timer_test

import (
	"testing"

	"tideline/api"
	"tideline/timer"
)

// P15.1, P15.2, P15.3: the chapter's examples, row by row.
func TestExamples(t *testing.T) {
	x := timer.New()
	hasNone(t, x)
	for _, at := range []int{-1, 1<<40 + 1} {
		if e := x.Set(a, at); e != api.ErrArg {
			t.Errorf("Set(A, %d): error %d, want %d", at, e, api.ErrArg)
		}
	}
	set(t, x, b, 5)
	set(t, x, a, 7)
	isNext(t, x, alarm{b, 5})
	set(t, x, a, 5)
	isNext(t, x, alarm{a, 5})
	if n := x.Len(); n != 2 {
		t.Errorf("Len(): %d, want 2", n)
	}
	isDue(t, x, 4)
	isDue(t, x, 5, alarm{a, 5}, alarm{b, 5})
	isAt(t, x, a, 5)
	isNot(t, x, api.Name{})
	if !x.Drop(a) {
		t.Error("Drop(A): false, want true")
	}
	if x.Drop(a) {
		t.Error("Drop(A) again: true, want false")
	}
	isDue(t, x, 9, alarm{b, 5})
}

// P15.1: a new one has no alarm, not even one of the zero Name.
func TestNew(t *testing.T) {
	x := timer.New()
	isSame(t, x, nil)
	for _, n := range []api.Name{{}, a, name(-1, -1, -1), name(most, most, most)} {
		isNot(t, x, n)
		if x.Drop(n) {
			t.Errorf("Drop(%v) of a new one: true, want false", n)
		}
	}
	isSame(t, x, nil)
}

// P15.1: the zero Name has an alarm as any other one, and a time 0 is a time.
func TestZeros(t *testing.T) {
	x := timer.New()
	set(t, x, api.Name{}, 0)
	isSame(t, x, plain{{api.Name{}, 0}})
	if !x.Drop(api.Name{}) {
		t.Error("Drop of the zero Name, at 0: false, want true")
	}
	isSame(t, x, nil)
}

// P15.1: names may be any, and two that differ in one field are two.
func TestSetAnyNames(t *testing.T) {
	x := timer.New()
	var want plain
	for i, n := range odd() {
		for _, one := range []alarm{{name(n, 5, 5), i}, {name(5, n, 5), 100 - i}, {name(5, 5, n), last}} {
			set(t, x, one.name, one.at)
			want = want.set(one.name, one.at)
		}
	}
	if len(want) != 3*len(odd()) {
		t.Fatalf("%d names are unlike, want %d", len(want), 3*len(odd()))
	}
	isSame(t, x, want)
	for _, one := range want {
		if !x.Drop(one.name) || x.Drop(one.name) {
			t.Errorf("Drop(%v) twice: want true, then false", one.name)
		}
		want = want.drop(one.name)
		isNot(t, x, one.name)
	}
	isSame(t, x, nil)
}

// P15.1: no number of one field stands in for one of another field.
func TestFieldsOfNames(t *testing.T) {
	x := made(t, alarm{name(1, 2, 3), 4})
	for _, n := range []api.Name{
		name(1, 3, 2), name(2, 1, 3), name(2, 3, 1), name(3, 1, 2), name(3, 2, 1),
		name(0, 2, 3), name(1, 0, 3), name(1, 2, 0), name(-1, 2, 3), name(1, -2, 3), name(1, 2, -3),
		name(1+1<<32, 2, 3), name(1, 2+1<<32, 3), name(1, 2, 3+1<<32),
	} {
		isNot(t, x, n)
		if x.Drop(n) {
			t.Errorf("Drop(%v): true, want false", n)
		}
	}
	isSame(t, x, plain{{name(1, 2, 3), 4}})
}

// P15.1: the times that may be, at their ends too.
func TestSetTimes(t *testing.T) {
	for _, at := range []int{0, 1, 2, 1<<31 - 1, 1 << 31, 1 << 32, last - 1, last} {
		x := made(t, alarm{a, at})
		isAt(t, x, a, at)
		isSame(t, x, plain{{a, at}})
	}
}

// P15.1: an alarm that is set again is in the place of the one of its name; the others stay.
func TestSetAgain(t *testing.T) {
	for _, was := range []int{0, 4, 5, 6, last} {
		for _, at := range []int{0, 3, 4, 5, 6, 7, last} {
			x := made(t, alarm{a, was}, alarm{b, 5})
			isNext(t, x, plain{{a, was}, {b, 5}}.due(most)[0])
			set(t, x, a, at)
			isSame(t, x, plain{{a, at}, {b, 5}})
			set(t, x, b, at)
			isSame(t, x, plain{{a, at}, {b, at}})
			set(t, x, a, was)
			isSame(t, x, plain{{a, was}, {b, at}})
		}
	}
}

// P15.1: an alarm is dropped, dropped again, and set again, among others of its time.
func TestDrop(t *testing.T) {
	all := plain{{a, 5}, {b, 5}, {name(1, 1, 1), 0}, {name(-1, 1, 1), last}}
	for _, one := range all {
		x := made(t, all...)
		if !x.Drop(one.name) {
			t.Errorf("Drop(%v): false, want true", one.name)
		}
		isNot(t, x, one.name)
		isSame(t, x, all.drop(one.name))
		if x.Drop(one.name) {
			t.Errorf("Drop(%v) again: true, want false", one.name)
		}
		isSame(t, x, all.drop(one.name))
		for _, at := range []int{0, one.at, last} {
			set(t, x, one.name, at)
			isSame(t, x, all.set(one.name, at))
		}
		if !x.Drop(one.name) {
			t.Errorf("Drop(%v), set again: false, want true", one.name)
		}
		isSame(t, x, all.drop(one.name))
	}
}

// P15.1: Len counts names, not how often they were set.
func TestLen(t *testing.T) {
	x := timer.New()
	for i := range 500 {
		for range 3 {
			set(t, x, name(i%8, i/8, 1), i%7)
		}
		if n := x.Len(); n != i+1 {
			t.Fatalf("Len() of %d alarms: %d", i+1, n)
		}
	}
	for i := range 500 {
		x.Drop(name(i%8, i/8, 1))
		x.Drop(name(i%8, i/8, 1))
		if n := x.Len(); n != 499-i {
			t.Fatalf("Len() of %d alarms: %d", 499-i, n)
		}
	}
	isSame(t, x, nil)
}

// P15.1, R2: what is wrong, and that nothing changes by it.
func TestSetWrong(t *testing.T) {
	for _, at := range []int{-1, -2, -last, least, last + 1, last + 2, 1 << 41, most} {
		x := timer.New()
		if e := x.Set(a, at); e != api.ErrArg {
			t.Errorf("Set(%v, %d): error %d, want %d", a, at, e, api.ErrArg)
		}
		isNot(t, x, a)
		isSame(t, x, nil)

		want := plain{{a, 5}, {b, 0}, {name(most, least, -1), last}}
		x = made(t, want...)
		for _, n := range []api.Name{a, b, want[2].name, {}, name(2, 1, 1)} {
			if e := x.Set(n, at); e != api.ErrArg {
				t.Errorf("Set(%v, %d): error %d, want %d", n, at, e, api.ErrArg)
			}
			isSame(t, x, want)
		}
		isNot(t, x, api.Name{})
	}
}

// R3: what is done to one timer is not seen by another one.
func TestTwoTimers(t *testing.T) {
	x, y := timer.New(), timer.New()
	set(t, x, a, 5)
	isSame(t, y, nil)
	set(t, y, a, 7)
	set(t, y, b, 1)
	isSame(t, x, plain{{a, 5}})
	if !x.Drop(a) {
		t.Error("Drop(A): false, want true")
	}
	isSame(t, x, nil)
	isSame(t, y, plain{{a, 7}, {b, 1}})
	isSame(t, timer.New(), nil)
	if x.Drop(b) {
		t.Error("Drop(B) where another timer has it: true, want false")
	}
	isSame(t, y, plain{{a, 7}, {b, 1}})
}
