package bag_test

import (
	"fmt"
	"iter"
	"math"
	"slices"
	"strings"
	"testing"

	"tideline/api"
	"tideline/bag"
)

// The document's limits, by its own words.
const (
	mostRoom  = 512
	mostBytes = 65536
	allNodes  = 8
	least     = math.MinInt
	most      = math.MaxInt
)

// packet is an api.Packet whose bytes are a text: such ones are held against each other by ==.
type packet struct {
	num, from, to int
	data          string
}

func (p packet) String() string {
	if len(p.data) > 20 {
		return fmt.Sprintf("%d (%d to %d) %q.. of %d bytes", p.num, p.from, p.to, p.data[:20], len(p.data))
	}
	return fmt.Sprintf("%d (%d to %d) %q", p.num, p.from, p.to, p.data)
}

func seen(p api.Packet) packet { return packet{p.Num, p.From, p.To, string(p.Data)} }

// gone goes through all rows, and sees that they are counted from 0 on.
func gone(t *testing.T, rows iter.Seq2[int, api.Packet]) []packet {
	t.Helper()
	if rows == nil {
		t.Fatal("All(): nil")
	}
	var l []packet
	for i, p := range rows {
		if i != len(l) {
			t.Fatalf("All(): the row %d is said to be %d", len(l), i)
		}
		l = append(l, seen(p))
	}
	return l
}

func tells(t *testing.T, what string, rows iter.Seq2[int, api.Packet], want []packet) {
	t.Helper()
	if l := gone(t, rows); !slices.Equal(l, want) {
		t.Fatalf("%s: %v, want %v", what, l, want)
	}
}

// pair is a bag, and a second reading of the promises that is told all that the bag is.
type pair struct {
	b    *bag.Bag
	also *plain
}

func newBag(t *testing.T, room int) *bag.Bag {
	t.Helper()
	b, e := bag.New(room)
	if b == nil || e != api.OK {
		t.Fatalf("New(%d): %v, error %d, want a bag", room, b, e)
	}
	return b
}

func newPair(t *testing.T, room int) pair {
	t.Helper()
	p := pair{newBag(t, room), &plain{room: room}}
	p.isOne(t)
	return p
}

// fedPair has that many frames, from and to and with bytes of many kinds.
func fedPair(t *testing.T, room, frames int) pair {
	t.Helper()
	p := newPair(t, room)
	p.feed(t, frames)
	return p
}

// feed sends that many frames more.
func (p pair) feed(t *testing.T, frames int) {
	t.Helper()
	for i := range frames {
		n := len(p.also.came)
		from := n % allNodes
		p.send(t, from, (from+1+n%7)%allNodes, fmt.Sprintf("%d%s", n, strings.Repeat("\x00", i%3)))
	}
}

func (p pair) send(t *testing.T, from, to int, data string) int {
	t.Helper()
	return p.sendBytes(t, from, to, []byte(data))
}

func (p pair) sendBytes(t *testing.T, from, to int, data []byte) int {
	t.Helper()
	want, wantError := p.also.send(from, to, string(data))
	n, e := p.b.Send(from, to, data)
	if n != want || e != wantError {
		t.Fatalf("Send(%d, %d, %d bytes): %d, error %d, want %d, error %d", from, to, len(data), n, e, want, wantError)
	}
	return n
}

func (p pair) take(t *testing.T, i int) packet {
	t.Helper()
	want, wantError := p.also.take(i)
	x, e := p.b.Take(i)
	if seen(x) != want || e != wantError {
		t.Fatalf("Take(%d): %v, error %d, want %v, error %d", i, seen(x), e, want, wantError)
	}
	return want
}

func (p pair) drop(t *testing.T, i int) {
	t.Helper()
	want := p.also.drop(i)
	if e := p.b.Drop(i); e != want {
		t.Fatalf("Drop(%d): error %d, want %d", i, e, want)
	}
}

func (p pair) double(t *testing.T, i int) int {
	t.Helper()
	want, wantError := p.also.double(i)
	n, e := p.b.Double(i)
	if n != want || e != wantError {
		t.Fatalf("Double(%d): %d, error %d, want %d, error %d", i, n, e, want, wantError)
	}
	return n
}

// isOne asks for all that a bag tells; twice, as no asking may change it.
func (p pair) isOne(t *testing.T) {
	t.Helper()
	want := p.also.under()
	for range 2 {
		if n := p.b.Len(); n != len(want) {
			t.Fatalf("Len(): %d, want %d", n, len(want))
		}
		if n := p.b.Lost(); n != p.also.lost {
			t.Fatalf("Lost(): %d, want %d", n, p.also.lost)
		}
		tells(t, "All()", p.b.All(), want)
	}
}

// settled looks at the bag, and at the numbers that it gives from now on, till it is empty.
func (p pair) settled(t *testing.T) {
	t.Helper()
	p.isOne(t)
	p.send(t, 3, 4, "one more")
	p.isOne(t)
	for p.b.Len() > 0 {
		p.take(t, 0)
	}
	p.isOne(t)
	p.send(t, 4, 3, "the first one again")
	p.isOne(t)
}

func nothing(p api.Packet) bool { return p.Num == 0 && p.From == 0 && p.To == 0 && len(p.Data) == 0 }
