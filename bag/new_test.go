package bag_test

import (
	"testing"

	"tideline/api"
	"tideline/bag"
)

// P18.1 to P18.5: the chapter's examples, row by row.
func TestExamples(t *testing.T) {
	for _, room := range []int{0, 513} {
		if b, e := bag.New(room); b != nil || e != api.ErrArg {
			t.Errorf("New(%d): %v, error %d, want nil, %d", room, b, e, api.ErrArg)
		}
	}
	b := newBag(t, 2)
	for i, x := range []struct {
		from, to int
		data     string
		want     int
	}{{0, 1, "a", 1}, {1, 0, "b", 2}, {0, 1, "c", 0}} {
		if n, e := b.Send(x.from, x.to, []byte(x.data)); n != x.want || e != api.OK {
			t.Errorf("Send %d: %d, error %d, want %d", i, n, e, x.want)
		}
	}
	if n := b.Lost(); n != 1 {
		t.Errorf("Lost(): %d, want 1", n)
	}
	if p, e := b.Take(0); seen(p) != (packet{1, 0, 1, "a"}) || e != api.OK {
		t.Errorf("Take(0): %v, error %d, want 1 (0 to 1) a", seen(p), e)
	}
	if n, e := b.Double(0); n != 3 || e != api.OK {
		t.Errorf("Double(0): %d, error %d, want 3", n, e)
	}
	if n := b.Len(); n != 2 {
		t.Errorf("Len(): %d, want 2", n)
	}
	if p, e := b.Take(1); seen(p) != (packet{3, 1, 0, "b"}) || e != api.OK {
		t.Errorf("Take(1): %v, error %d, want 3 (1 to 0) b", seen(p), e)
	}
	if e := b.Drop(1); e != api.ErrNone {
		t.Errorf("Drop(1): error %d, want %d", e, api.ErrNone)
	}
	if e := b.Drop(0); e != api.OK {
		t.Errorf("Drop(0): error %d, want OK", e)
	}
	if n := b.Lost(); n != 2 {
		t.Errorf("Lost(): %d, want 2", n)
	}
	for i, x := range []struct {
		from, to, bytes int
		want            api.Errno
	}{{0, 0, 0, api.ErrArg}, {8, 0, 0, api.ErrArg}, {0, 1, 65537, api.ErrFrame}} {
		if n, e := b.Send(x.from, x.to, make([]byte, x.bytes)); n != 0 || e != x.want {
			t.Errorf("wrong Send %d: %d, error %d, want 0, %d", i, n, e, x.want)
		}
	}
}

// P18.1: rooms that may not be.
func TestNewWrong(t *testing.T) {
	for _, room := range []int{least, -mostRoom, -2, -1, 0, mostRoom + 1, mostRoom + 2, 2 * mostRoom, 1<<32 + 1, -1<<32 + 1, most} {
		if b, e := bag.New(room); b != nil || e != api.ErrArg {
			t.Errorf("New(%d): %v, error %d, want nil, %d", room, b, e, api.ErrArg)
		}
	}
}

// P18.1: a new one has no frame, and has lost none.
func TestNewIsEmpty(t *testing.T) {
	for _, room := range []int{1, 2, 3, mostRoom - 1, mostRoom} {
		b := newBag(t, room)
		if b.Len() != 0 || b.Lost() != 0 {
			t.Errorf("room %d: Len() %d, Lost() %d, want 0, 0", room, b.Len(), b.Lost())
		}
		tells(t, "All()", b.All(), nil)
		if p, e := b.Take(0); !nothing(p) || e != api.ErrNone {
			t.Errorf("room %d: Take(0): %v, error %d, want nothing, %d", room, seen(p), e, api.ErrNone)
		}
		if e := b.Drop(0); e != api.ErrNone {
			t.Errorf("room %d: Drop(0): error %d, want %d", room, e, api.ErrNone)
		}
		if n, e := b.Double(0); n != 0 || e != api.ErrNone {
			t.Errorf("room %d: Double(0): %d, error %d, want 0, %d", room, n, e, api.ErrNone)
		}
	}
}

// P18.1, P18.2: every room that may be is for just so many frames.
func TestNewRooms(t *testing.T) {
	for room := 1; room <= mostRoom; room++ {
		b := newBag(t, room)
		for i := range room {
			if n, e := b.Send(0, 1, nil); n != i+1 || e != api.OK {
				t.Fatalf("room %d: Send %d: %d, error %d", room, i, n, e)
			}
		}
		if n, e := b.Send(0, 1, nil); n != 0 || e != api.OK || b.Len() != room || b.Lost() != 1 {
			t.Fatalf("room %d: one too many: %d, error %d; Len() %d, Lost() %d", room, n, e, b.Len(), b.Lost())
		}
	}
}

// R3: what is done to one bag is not seen by another one: not its frames, its numbers, its room, nor what it lost.
func TestTwoBags(t *testing.T) {
	x, y := newPair(t, 2), newPair(t, 3)
	x.feed(t, 2)
	y.isOne(t)
	y.feed(t, 1)
	x.isOne(t)
	x.send(t, 0, 1, "no room here")
	x.drop(t, 0)
	y.isOne(t)
	y.double(t, 0)
	y.take(t, 0)
	x.isOne(t)
	y.feed(t, 2)
	x.double(t, 0)
	y.isOne(t)
	x.isOne(t)
	newPair(t, 1).settled(t)
	x.settled(t)
	y.settled(t)
}
