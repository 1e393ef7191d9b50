package bag_test

import (
	"strings"
	"testing"

	"tideline/api"
)

// P18.2: which nodes may be, each with each; what may not be takes no number.
func TestSendNodes(t *testing.T) {
	nodes := []int{least, -1 << 32, -8, -7, -2, -1, 0, 1, 2, 3, 4, 5, 6, 7, 8, 9, 15, 16, 1 << 32, 1<<32 + 1, most}
	p := newPair(t, mostRoom)
	for _, from := range nodes {
		for _, to := range nodes {
			p.send(t, from, to, "x")
		}
	}
	p.isOne(t)
	if n := p.b.Len(); n != allNodes*(allNodes-1) {
		t.Errorf("%d frames came in, want %d", n, allNodes*(allNodes-1))
	}
}

// P18.2: the same by its words, without a second reading.
func TestSendNodesWrong(t *testing.T) {
	b := newBag(t, 9)
	for _, x := range [][2]int{{0, 0}, {1, 1}, {7, 7}, {8, 0}, {0, 8}, {8, 8}, {-1, 0}, {0, -1}, {-1, -1}, {7, 8}, {8, 7}, {most, 0}, {0, least}} {
		if n, e := b.Send(x[0], x[1], []byte("x")); n != 0 || e != api.ErrArg {
			t.Errorf("Send(%d, %d): %d, error %d, want 0, %d", x[0], x[1], n, e, api.ErrArg)
		}
	}
	for i, x := range [][2]int{{0, 7}, {7, 0}, {0, 1}, {1, 0}, {6, 7}, {7, 6}} {
		if n, e := b.Send(x[0], x[1], []byte("x")); n != i+1 || e != api.OK {
			t.Errorf("Send(%d, %d): %d, error %d, want %d", x[0], x[1], n, e, i+1)
		}
	}
	if b.Len() != 6 || b.Lost() != 0 {
		t.Errorf("Len() %d, Lost() %d, want 6, 0", b.Len(), b.Lost())
	}
}

// P18.2: how long data may be, to the byte; none and nil are alike.
func TestSendLengths(t *testing.T) {
	p := newPair(t, 20)
	p.sendBytes(t, 0, 1, nil)
	p.sendBytes(t, 0, 1, []byte{})
	for _, n := range []int{0, 1, 2, 255, 256, 65534, mostBytes - 1, mostBytes} {
		p.send(t, 0, 1, strings.Repeat("ab", n)[:n])
	}
	p.isOne(t)
	if p.b.Len() != 10 {
		t.Errorf("Len(): %d, want 10", p.b.Len())
	}
	for _, n := range []int{mostBytes + 1, mostBytes + 2, 2 * mostBytes, 1 << 20} {
		if num, e := p.b.Send(0, 1, make([]byte, n)); num != 0 || e != api.ErrFrame {
			t.Errorf("Send of %d bytes: %d, error %d, want 0, %d", n, num, e, api.ErrFrame)
		}
		p.isOne(t)
	}
	p.settled(t)
}

// P18.2: what lies behind the length of data is not looked at, and does not come.
func TestSendSpareRoom(t *testing.T) {
	p := newPair(t, 9)
	long := make([]byte, 2*mostBytes)
	for _, n := range []int{0, 1, mostBytes} {
		p.sendBytes(t, 2, 5, long[:n])
	}
	p.settled(t)
}

// P18.2: what stands in a frame is not looked at: all bytes may be in it.
func TestSendAnyBytes(t *testing.T) {
	p := newPair(t, mostRoom)
	var all []byte
	for i := range 256 {
		p.send(t, 6, 7, string([]byte{byte(i)}))
		all = append(all, byte(i))
	}
	p.sendBytes(t, 7, 6, all)
	p.settled(t)
}

// P18.2: two frames that are alike are two, with a number each, behind all others.
func TestSendTwice(t *testing.T) {
	p := newPair(t, 5)
	for i := range 4 {
		if n := p.send(t, 1, 2, "same"); n != i+1 {
			t.Errorf("Send %d: %d", i, n)
		}
		p.isOne(t)
	}
	p.settled(t)
}

// P18.2, P18.3: frames stand in the order in which they came in, up to the greatest room.
func TestSendInOrder(t *testing.T) {
	for _, room := range []int{1, 2, 3, 17, mostRoom} {
		p := newPair(t, room)
		for i := range room {
			p.feed(t, 1)
			if p.b.Len() != i+1 {
				t.Fatalf("Len() of %d: %d", i+1, p.b.Len())
			}
		}
		p.isOne(t)
		for range 3 {
			p.feed(t, 1)
		}
		p.isOne(t)
		if p.b.Len() != room || p.b.Lost() != 3 {
			t.Errorf("room %d: Len() %d, Lost() %d, want %d, 3", room, p.b.Len(), p.b.Lost(), room)
		}
		p.settled(t)
	}
}

// P18.2: what is lost takes no number: the next one that comes in has that of its turn.
func TestSendLostTakesNone(t *testing.T) {
	for _, room := range []int{1, 2, 7} {
		p := fedPair(t, room, room)
		for round := range 5 {
			for range round {
				if n := p.send(t, 0, 1, "lost"); n != 0 {
					t.Fatalf("room %d: Send in a full bag: %d, want 0", room, n)
				}
			}
			p.take(t, round%room)
			if n := p.send(t, 0, 1, "in"); n != room+round+1 {
				t.Fatalf("room %d: the next one behind %d lost ones: %d, want %d", room, round, n, room+round+1)
			}
			p.isOne(t)
		}
		if p.b.Lost() != 10 {
			t.Errorf("room %d: Lost(): %d, want 10", room, p.b.Lost())
		}
	}
}
