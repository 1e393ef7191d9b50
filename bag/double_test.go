package bag_test

import (
	"testing"

	"tideline/api"
)

// P18.4: each frame of bags of all small sizes is doubled: the double is behind all others, with the next number; the frame stays.
func TestDoubleEach(t *testing.T) {
	for n := 1; n <= 9; n++ {
		for i := range n {
			p := fedPair(t, 10, n)
			was := p.also.under()
			if num := p.double(t, i); num != n+1 {
				t.Fatalf("Double(%d) of %d: %d, want %d", i, n, num, n+1)
			}
			tells(t, "behind Double", p.b.All(), append(was, packet{n + 1, was[i].from, was[i].to, was[i].data}))
			if p.b.Len() != n+1 || p.b.Lost() != 0 {
				t.Fatalf("Double(%d) of %d: Len() %d, Lost() %d, want %d, 0", i, n, p.b.Len(), p.b.Lost(), n+1)
			}
			p.settled(t)
		}
	}
}

// P18.4, P18.5: where there is no room the double is lost, takes no number, and nothing else changes.
func TestDoubleFindsNoRoom(t *testing.T) {
	for _, room := range []int{1, 2, 3, 9, mostRoom} {
		p := fedPair(t, room, room)
		for lost, i := range []int{0, room / 2, room - 1} {
			if n, e := p.b.Double(i); n != 0 || e != api.OK || p.b.Lost() != lost+1 || p.b.Len() != room {
				t.Fatalf("room %d: Double(%d): %d, error %d; Lost() %d, Len() %d", room, i, n, e, p.b.Lost(), p.b.Len())
			}
			p.also.lost++
			p.isOne(t)
		}
		p.take(t, 0)
		if n := p.send(t, 0, 1, "in"); n != room+1 {
			t.Errorf("room %d: the next number: %d, want %d", room, n, room+1)
		}
		p.settled(t)
	}
}

// P18.4: a double is a frame as any other one: it is doubled, dropped and taken itself, and outlasts the frame.
func TestDoubleOfADouble(t *testing.T) {
	p := newPair(t, mostRoom)
	p.send(t, 5, 2, "the one")
	p.send(t, 2, 5, "another one")
	for i := range 10 {
		p.double(t, 2*i)
		p.double(t, p.b.Len()-2)
		p.isOne(t)
	}
	p.take(t, 0)
	p.drop(t, 0)
	p.isOne(t)
	for p.b.Len() > 0 {
		x := p.take(t, p.b.Len()/2)
		if x.data != "the one" && x.data != "another one" {
			t.Fatalf("taken: %v", x)
		}
		p.isOne(t)
	}
	p.settled(t)
}

// P18.4: one frame is doubled till there is no room; of room 1 none is.
func TestDoubleTillFull(t *testing.T) {
	for _, room := range []int{1, 2, 3, 100, mostRoom} {
		p := fedPair(t, room, 1)
		for i := 1; i < room; i++ {
			if n := p.double(t, i/2); n != i+1 {
				t.Fatalf("room %d: double %d has the number %d", room, i, n)
			}
		}
		for i := range 3 {
			if n := p.double(t, 0); n != 0 || p.b.Lost() != i+1 {
				t.Fatalf("room %d: double in a full bag: %d, Lost() %d, want 0, %d", room, n, p.b.Lost(), i+1)
			}
		}
		p.isOne(t)
		p.settled(t)
	}
}

// P18.4: a frame without bytes, and one with as many as there may be, have doubles, too.
func TestDoubleLengths(t *testing.T) {
	p := newPair(t, 9)
	p.sendBytes(t, 0, 7, nil)
	p.sendBytes(t, 7, 0, make([]byte, mostBytes))
	p.double(t, 1)
	p.double(t, 0)
	p.double(t, 2)
	p.settled(t)
}

// P18.2, P18.4: sends and doubles share one row of numbers.
func TestNumbersAreShared(t *testing.T) {
	p := newPair(t, 3)
	want := 0
	for round := range 40 {
		n := p.send(t, 0, 1, "sent")
		want++
		if n != want {
			t.Fatalf("round %d: sent as %d, want %d", round, n, want)
		}
		n = p.double(t, p.b.Len()-1)
		want++
		if n != want {
			t.Fatalf("round %d: doubled as %d, want %d", round, n, want)
		}
		p.drop(t, 0)
		p.take(t, 0)
		p.isOne(t)
	}
}
