package bag_test

import (
	"testing"

	"tideline/api"
)

// bags are empty, with one frame, with some, full; of all kinds of rooms.
func bags(t *testing.T) []pair {
	t.Helper()
	l := []pair{
		newPair(t, 1), fedPair(t, 1, 1),
		newPair(t, 4), fedPair(t, 4, 1), fedPair(t, 4, 3), fedPair(t, 4, 4),
		newPair(t, mostRoom), fedPair(t, mostRoom, 1), fedPair(t, mostRoom, mostRoom),
	}
	emptied := fedPair(t, 3, 3)
	for range 3 {
		emptied.take(t, 0)
	}
	shrunk := fedPair(t, 3, 3)
	shrunk.drop(t, 2)
	return append(l, emptied, shrunk)
}

// P18.2, R2: what of several wrong things is told: nodes first, then the length, then that there is no room.
func TestFirstError(t *testing.T) {
	long := make([]byte, mostBytes+1)
	for i, p := range bags(t) {
		for _, x := range []struct {
			from, to int
			data     []byte
			want     api.Errno
		}{
			{0, 0, long, api.ErrArg},
			{8, 0, long, api.ErrArg},
			{0, 8, long, api.ErrArg},
			{-1, 0, long, api.ErrArg},
			{0, -1, long, api.ErrArg},
			{9, 9, long, api.ErrArg},
			{3, 3, nil, api.ErrArg},
			{8, 7, nil, api.ErrArg},
			{7, 8, nil, api.ErrArg},
			{0, 1, long, api.ErrFrame},
			{7, 6, long, api.ErrFrame},
		} {
			if n, e := p.b.Send(x.from, x.to, x.data); n != 0 || e != x.want {
				t.Errorf("bag %d: Send(%d, %d, %d bytes): %d, error %d, want 0, %d", i, x.from, x.to, len(x.data), n, e, x.want)
			}
		}
		p.settled(t)
	}
}

// P18.4, R2: frames that there are not, on both sides of those that there are; nothing is lost, and nothing changes.
func TestNoSuchFrame(t *testing.T) {
	for k, p := range bags(t) {
		n := p.b.Len()
		for _, i := range []int{n, n + 1, n + 2, mostRoom, mostRoom + 1, 1 << 32, 1<<32 + 1, most - 1, most, -1, -2, -n, -n - 1, -1 << 32, least + 1, least} {
			if x, e := p.b.Take(i); !nothing(x) || e != api.ErrNone {
				t.Errorf("bag %d of %d: Take(%d): %v, error %d, want nothing, %d", k, n, i, seen(x), e, api.ErrNone)
			}
			if e := p.b.Drop(i); e != api.ErrNone {
				t.Errorf("bag %d of %d: Drop(%d): error %d, want %d", k, n, i, e, api.ErrNone)
			}
			if num, e := p.b.Double(i); num != 0 || e != api.ErrNone {
				t.Errorf("bag %d of %d: Double(%d): %d, error %d, want 0, %d", k, n, i, num, e, api.ErrNone)
			}
		}
		p.isOne(t)
		p.settled(t)
	}
}

// P18.4: the places of frames that were taken or dropped are none any more, though the bag once had so many.
func TestNoSuchFrameAnyMore(t *testing.T) {
	p := fedPair(t, 6, 6)
	for n := 5; n >= 0; n-- {
		if n%2 == 0 {
			p.drop(t, n/2)
		} else {
			p.take(t, n/2)
		}
		for i := n; i < 7; i++ {
			p.take(t, i)
			p.drop(t, i)
			p.double(t, i)
		}
		p.isOne(t)
	}
	p.settled(t)
}

// R2: behind an error the number that comes next is what it would have been.
func TestErrorsTakeNoNumber(t *testing.T) {
	p := newPair(t, 9)
	for want := 1; want <= 9; want++ {
		p.send(t, 1, 1, "x")
		p.send(t, 8, 1, "x")
		p.sendBytes(t, 0, 1, make([]byte, mostBytes+1))
		p.double(t, -1)
		p.double(t, p.b.Len())
		p.drop(t, p.b.Len())
		p.take(t, p.b.Len())
		if n := p.send(t, 1, 0, "x"); n != want {
			t.Fatalf("the next number: %d, want %d", n, want)
		}
	}
	p.settled(t)
}
