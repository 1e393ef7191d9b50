package tally_test

import (
	"math"
	"math/rand/v2"
	"testing"

	"tideline/api"
	"tideline/tally"
)

// P5.5
func TestMeter(t *testing.T) {
	m := tally.NewMeter()
	if got := m.Joins(); got != 0 {
		t.Errorf("a meter that has joined nothing: Joins %d", got)
	}
	for i, x := range []struct{ a, b, want api.Tally }{
		{tallyOf(2, most, 5), tallyOf(3, 2, 1), tallyOf(5, 1, 6)},
		// What changes nothing is counted too, and so are Counts that wrap round.
		{api.Tally{}, api.Tally{}, api.Tally{}},
		{tallyOf(4, 1, 1), api.Tally{}, tallyOf(4, 1, 1)},
		{api.Tally{}, tallyOf(4, 1, 1), tallyOf(4, 1, 1)},
		{tallyOf(-1, 0, 0), tallyOf(-1, 0, 0), tallyOf(-2, 0, 0)},
		{tallyOf(math.MaxInt, most, most), tallyOf(1, 1, 1), tallyOf(math.MinInt, 0, 0)},
	} {
		if got := m.Join(x.a, x.b); got != x.want {
			t.Errorf("the meter's Join(%v, %v): %v, want %v", x.a, x.b, got, x.want)
		}
		// Asked twice, as asking is no joining.
		if first, then := m.Joins(), m.Joins(); first != i+1 || then != i+1 {
			t.Errorf("behind %d joins: Joins %d, then %d", i+1, first, then)
		}
	}
}

// P5.5
func TestMeterJoins(t *testing.T) {
	m := tally.NewMeter()
	joins := 0
	for _, a := range anyTallies() {
		for _, b := range anyTallies() {
			if got, want := m.Join(a, b), joined(a, b); got != want {
				t.Fatalf("the meter's Join(%v, %v): %v, want %v", a, b, got, want)
			}
			joins++
			if got := m.Joins(); got != joins {
				t.Fatalf("behind %d joins: Joins %d", joins, got)
			}
		}
	}
}

// P5.5, R3: each meter counts its own joins alone, and none what is joined without one.
func TestMetersApart(t *testing.T) {
	rnd := rand.New(rand.NewPCG(5, 5))
	meters := []*tally.Meter{tally.NewMeter(), tally.NewMeter(), tally.NewMeter()}
	var joins [3]int
	for range 3000 {
		a, b := someTally(rnd), someTally(rnd)
		which := rnd.IntN(len(meters) + 1)
		if which < len(meters) {
			meters[which].Join(a, b)
			joins[which]++
		} else {
			tally.Join(a, b)
			tally.Less(a, b)
			tally.All(someEntries(rnd, 3))
		}
		for i, m := range meters {
			if got := m.Joins(); got != joins[i] {
				t.Fatalf("meter %d: Joins %d, want %d", i, got, joins[i])
			}
		}
	}
	if got := tally.NewMeter().Joins(); got != 0 {
		t.Errorf("a new meter beside others: Joins %d", got)
	}
}

// P5.5: also where Join is handed on as a function.
func TestMeterHandedOn(t *testing.T) {
	m := tally.NewMeter()
	join := m.Join
	var all api.Tally
	for _, e := range anyEntries() {
		all = join(all, tally.Of(e))
	}
	if want := counted(anyEntries()); all != want {
		t.Errorf("joined: %x, want %x", all, want)
	}
	if got, want := m.Joins(), len(anyEntries()); got != want {
		t.Errorf("Joins: %d, want %d", got, want)
	}
}
