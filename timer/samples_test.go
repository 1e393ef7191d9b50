package timer_test

import (
	"fmt"
	"iter"
	"math"
	"slices"
	"testing"

	"tideline/api"
	"tideline/frame"
	"tideline/timer"
)

const (
	last  = 1 << 40 // the greatest time that may be
	most  = math.MaxInt
	least = math.MinInt
)

// The names that the chapter's examples have.
var (
	a = name(0, 1, 1)
	b = name(0, 1, 2)
)

func name(opener, life, number int) api.Name {
	return api.Name{Opener: opener, Life: life, Number: number}
}

// alarm is written as {Opener Life Number} at Time where a test tells it.
type alarm struct {
	name api.Name
	at   int
}

func (x alarm) String() string {
	return fmt.Sprintf("{%d %d %d} at %d", x.name.Opener, x.name.Life, x.name.Number, x.at)
}

// odd are numbers of which names are made: most of them may stand in no session's name.
func odd() []int { return []int{least, least + 1, -2, -1, 0, 1, 2, 7, 8, 1 << 20, most - 1, most} }

// ahead goes by the words: the lower time first, of one time the name that chapter 11 has below.
func ahead(x, y alarm) bool {
	if x.at == y.at {
		return frame.CompareNames(x.name, y.name) < 0
	}
	return x.at < y.at
}

// plain is a list of alarms, in the order in which they were set first: a second reading of the promises.
type plain []alarm

func (p plain) find(n api.Name) int {
	return slices.IndexFunc(p, func(x alarm) bool { return x.name == n })
}

func (p plain) set(n api.Name, at int) plain {
	if i := p.find(n); i >= 0 {
		p = slices.Clone(p)
		p[i].at = at
		return p
	}
	return append(slices.Clone(p), alarm{n, at})
}

func (p plain) drop(n api.Name) plain {
	return slices.DeleteFunc(slices.Clone(p), func(x alarm) bool { return x.name == n })
}

// due puts each alarm at the place that is the number of those ahead of it.
func (p plain) due(now int) []alarm {
	var some []alarm
	for _, x := range p {
		if x.at <= now {
			some = append(some, x)
		}
	}
	l := make([]alarm, len(some))
	for _, x := range some {
		place := 0
		for _, y := range some {
			if ahead(y, x) {
				place++
			}
		}
		l[place] = x
	}
	return l
}

func gone(rows iter.Seq2[api.Name, int]) []alarm {
	var l []alarm
	for n, at := range rows {
		l = append(l, alarm{n, at})
	}
	return l
}

func set(t *testing.T, x *timer.Timer, n api.Name, at int) {
	t.Helper()
	if e := x.Set(n, at); e != api.OK {
		t.Fatalf("Set of %v: error %d, want OK", alarm{n, at}, e)
	}
}

func made(t *testing.T, l ...alarm) *timer.Timer {
	t.Helper()
	x := timer.New()
	for _, one := range l {
		set(t, x, one.name, one.at)
	}
	return x
}

// isDue asks twice: that Due was asked must not be seen by the one that follows.
func isDue(t *testing.T, x *timer.Timer, now int, want ...alarm) {
	t.Helper()
	for range 2 {
		rows := x.Due(now)
		if rows == nil {
			t.Fatalf("Due(%d): nil", now)
		}
		if l := gone(rows); !slices.Equal(l, want) {
			t.Fatalf("Due(%d): %v, want %v", now, l, want)
		}
	}
}

func isAt(t *testing.T, x *timer.Timer, n api.Name, want int) {
	t.Helper()
	if at, is := x.At(n); at != want || !is {
		t.Fatalf("At(%v): %d, %t, want %d, true", n, at, is, want)
	}
}

func isNot(t *testing.T, x *timer.Timer, n api.Name) {
	t.Helper()
	if at, is := x.At(n); at != 0 || is {
		t.Fatalf("At(%v): %d, %t, want 0, false", n, at, is)
	}
}

func isNext(t *testing.T, x *timer.Timer, want alarm) {
	t.Helper()
	if n, at, is := x.Next(); n != want.name || at != want.at || !is {
		t.Fatalf("Next(): %v, %t, want %v, true", alarm{n, at}, is, want)
	}
}

func hasNone(t *testing.T, x *timer.Timer) {
	t.Helper()
	if n, at, is := x.Next(); n != (api.Name{}) || at != 0 || is {
		t.Fatalf("Next(): %v, %t, want zeros, false", alarm{n, at}, is)
	}
	if n := x.Len(); n != 0 {
		t.Fatalf("Len(): %d, want 0", n)
	}
	isDue(t, x, most)
}

// isSame asks for all that a timer tells; twice, as no asking may change it.
func isSame(t *testing.T, x *timer.Timer, want plain) {
	t.Helper()
	for range 2 {
		if n := x.Len(); n != len(want) {
			t.Fatalf("Len(): %d, want %d", n, len(want))
		}
		all := want.due(most)
		isDue(t, x, most, all...)
		for _, one := range all {
			isAt(t, x, one.name, one.at)
		}
		if len(all) == 0 {
			hasNone(t, x)
			continue
		}
		isNext(t, x, all[0])
		for _, one := range []alarm{all[0], all[len(all)/2], all[len(all)-1]} {
			for _, now := range []int{one.at - 1, one.at, one.at + 1} {
				isDue(t, x, now, want.due(now)...)
			}
		}
	}
}
