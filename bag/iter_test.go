package bag_test

import (
	"fmt"
	"iter"
	"slices"
	"testing"

	"tideline/api"
)

// change is something that is done to a bag.
type change struct {
	what string
	do   func(t *testing.T, p pair)
}

// changes are made to bags with 4 frames and room for 6.
func changes() []change {
	return []change{
		{"Send", func(t *testing.T, p pair) { p.feed(t, 1) }},
		{"Send till full", func(t *testing.T, p pair) { p.feed(t, 5) }},
		{"Take of the first", func(t *testing.T, p pair) { p.take(t, 0) }},
		{"Take in the midst", func(t *testing.T, p pair) { p.take(t, 2) }},
		{"Take of the last", func(t *testing.T, p pair) { p.take(t, p.b.Len()-1) }},
		{"Drop of the first", func(t *testing.T, p pair) { p.drop(t, 0) }},
		{"Drop in the midst", func(t *testing.T, p pair) { p.drop(t, 1) }},
		{"Drop of the last", func(t *testing.T, p pair) { p.drop(t, p.b.Len()-1) }},
		{"Double", func(t *testing.T, p pair) { p.double(t, 1) }},
		{"Double till full", func(t *testing.T, p pair) {
			for i := range 4 {
				p.double(t, i)
			}
		}},
		{"Take of the last, and another one in its place", func(t *testing.T, p pair) {
			p.take(t, p.b.Len()-1)
			p.feed(t, 1)
		}},
		{"Drop of two, and two in their places", func(t *testing.T, p pair) {
			p.drop(t, p.b.Len()-1)
			p.drop(t, p.b.Len()-1)
			p.feed(t, 1)
			p.double(t, 0)
		}},
		{"emptied", func(t *testing.T, p pair) {
			for p.b.Len() > 0 {
				p.take(t, 0)
			}
		}},
		{"emptied from behind, and filled", func(t *testing.T, p pair) {
			for p.b.Len() > 0 {
				p.drop(t, p.b.Len()-1)
			}
			p.feed(t, 7)
		}},
		{"emptied and filled, often", func(t *testing.T, p pair) {
			for range 5 {
				for p.b.Len() > 0 {
					p.take(t, p.b.Len()/2)
				}
				p.feed(t, 6)
			}
		}},
	}
}

// P18.3, R6: what was there when All was asked is told, whatever is done ahead of ranging over it; twice.
func TestAllOfBefore(t *testing.T) {
	for _, c := range changes() {
		p := fedPair(t, 6, 4)
		was, rows := p.also.under(), p.b.All()
		c.do(t, p)
		for range 2 {
			tells(t, c.what, rows, was)
		}
		p.isOne(t)
		c.do(t, fedPair(t, 6, 4))
		tells(t, c.what+", and another bag", rows, was)
		p.settled(t)
		tells(t, c.what+", and all taken", rows, was)
	}
}

// P18.3, R6: and whatever is done in the midst of it, at each place; the bag itself has changed.
func TestAllInTheMidst(t *testing.T) {
	for _, c := range changes() {
		for place := range 4 {
			p := fedPair(t, 6, 4)
			was := p.also.under()
			var l []packet
			for i, x := range p.b.All() {
				if i != len(l) {
					t.Fatalf("%s at %d: the row %d is said to be %d", c.what, place, len(l), i)
				}
				l = append(l, seen(x))
				if i == place {
					c.do(t, p)
					p.isOne(t)
				}
			}
			if !slices.Equal(l, was) {
				t.Errorf("%s at %d: %v, want %v", c.what, place, l, was)
			}
			p.settled(t)
		}
	}
}

// P18.3, R6: frames that are sent within the loop are not told by it; this ends, though each frame sends two.
func TestAllSendsItself(t *testing.T) {
	p := fedPair(t, mostRoom, 5)
	told := 0
	for i := range p.b.All() {
		told++
		if told > 5 {
			t.Fatal("more is told than there was")
		}
		p.double(t, i)
		p.feed(t, 1)
	}
	if told != 5 || p.b.Len() != 15 {
		t.Errorf("%d were told, and there are %d, want 5 and 15", told, p.b.Len())
	}
	p.settled(t)
}

// P18.3, R6: frames that are taken within the loop are told by it all the same.
func TestAllTakesItself(t *testing.T) {
	p := fedPair(t, 5, 5)
	was := p.also.under()
	for i, x := range p.b.All() {
		if y := p.take(t, 0); y != was[i] || seen(x) != y {
			t.Errorf("%d: told %v, taken %v, want %v", i, seen(x), y, was[i])
		}
	}
	if p.b.Len() != 0 {
		t.Errorf("Len(): %d, want 0", p.b.Len())
	}
	p.settled(t)
}

// P18.3, R6: of a bag without frames, too: of a new one, and of an emptied one.
func TestAllOfNone(t *testing.T) {
	p := newPair(t, 3)
	rows := p.b.All()
	p.feed(t, 3)
	tells(t, "asked for ahead of the first Send", rows, nil)
	for range 3 {
		p.take(t, 0)
	}
	emptied := p.b.All()
	p.feed(t, 2)
	tells(t, "asked for of an emptied bag", emptied, nil)
	tells(t, "asked for ahead of the first Send", rows, nil)
	p.settled(t)
}

// R6: it is left early at every place, and tells all from the beginning on when it is ranged over again.
func TestAllLeftEarly(t *testing.T) {
	p := fedPair(t, 9, 9)
	was, rows := p.also.under(), p.b.All()
	for place := range was {
		var l []packet
		for i, x := range rows {
			l = append(l, seen(x))
			if i == place {
				break
			}
		}
		if !slices.Equal(l, was[:place+1]) {
			t.Errorf("left at %d: %v, want %v", place, l, was[:place+1])
		}
		tells(t, fmt.Sprint("behind one that was left at ", place), rows, was)
	}
	p.settled(t)
}

// R6: whoever has said that it is enough is not called any more.
func TestAllStops(t *testing.T) {
	rows := fedPair(t, 4, 4).b.All()
	for enough := range 4 {
		called := 0
		rows(func(int, api.Packet) bool {
			called++
			return called <= enough
		})
		if called != enough+1 {
			t.Errorf("called %d times, want %d", called, enough+1)
		}
	}
}

// R6: within itself, and within another one of the same bag.
func TestAllWithinItself(t *testing.T) {
	p := fedPair(t, 6, 4)
	was, rows := p.also.under(), p.b.All()
	p.take(t, 1)
	p.feed(t, 2)
	is, others := p.also.under(), p.b.All()
	var l []packet
	for i, x := range rows {
		tells(t, fmt.Sprint("within itself at ", i), rows, was)
		for range others {
			for range rows {
				break
			}
		}
		tells(t, fmt.Sprint("within another one at ", i), others, is)
		l = append(l, seen(x))
	}
	if !slices.Equal(l, was) {
		t.Errorf("with others in it: %v, want %v", l, was)
	}
}

// R6: iterators of two bags have nothing in common.
func TestAllOfTwoBags(t *testing.T) {
	x, y := fedPair(t, 4, 3), fedPair(t, 4, 4)
	one, other, wasOne, wasOther := x.b.All(), y.b.All(), x.also.under(), y.also.under()
	x.drop(t, 2)
	y.take(t, 3)
	y.feed(t, 1)
	x.feed(t, 1)
	for range one {
		tells(t, "the second bag's", other, wasOther)
		tells(t, "the first bag's", one, wasOne)
	}
	x.settled(t)
	y.settled(t)
}

// asked is an iterator that was asked for earlier, and what it must tell.
type asked struct {
	rows iter.Seq2[int, api.Packet]
	want []packet
}

func (a asked) tells(t *testing.T, behind []int) {
	t.Helper()
	tells(t, fmt.Sprint("asked for ahead of ", behind), a.rows, a.want)
}

// steps are the calls of which all short rows are made.
func steps() []func(t *testing.T, p pair) {
	return []func(t *testing.T, p pair){
		func(t *testing.T, p pair) { p.send(t, 2, 6, fmt.Sprint("frame ", len(p.also.came))) },
		func(t *testing.T, p pair) { p.take(t, 0) },
		func(t *testing.T, p pair) { p.take(t, p.b.Len()-1) },
		func(t *testing.T, p pair) { p.drop(t, 1) },
		func(t *testing.T, p pair) { p.double(t, 0) },
	}
}

// P18.2 to P18.5, R6: all rows of six calls, on bags of which some have spare room in their memory: iterators that were asked for ahead of each call tell what there was.
func TestAllShortRows(t *testing.T) {
	const calls = 6
	count := len(steps())
	whole := 1
	for range calls {
		whole *= count
	}
	for start := range 4 {
		for row := range whole {
			p := fedPair(t, 4, start)
			var behind []int
			var before []asked
			for rest := row; len(behind) < calls; rest /= count {
				before = append(before, asked{p.b.All(), p.also.under()})
				steps()[rest%count](t, p)
				behind = append(behind, rest%count)
			}
			for _, a := range before {
				a.tells(t, behind)
			}
			p.isOne(t)
		}
	}
}

// R6: bags of all sizes, each frame of which is taken or dropped, and others sent behind: what is laid down later is never laid over what an iterator has.
func TestAllOfAnySize(t *testing.T) {
	for n := 1; n <= 34; n++ {
		for i := range n {
			p := fedPair(t, 40, n)
			before := []asked{{p.b.All(), p.also.under()}}
			for round := range 3 {
				if round%2 == 0 {
					p.take(t, min(i, p.b.Len()-1))
				} else {
					p.drop(t, max(p.b.Len()-1-i, 0))
				}
				before = append(before, asked{p.b.All(), p.also.under()})
				p.feed(t, 2)
				before = append(before, asked{p.b.All(), p.also.under()})
			}
			for _, a := range before {
				a.tells(t, []int{n, i})
			}
		}
	}
}
