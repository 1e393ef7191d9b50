package bag_test

import (
	"slices"
	"testing"

	"tideline/api"
)

// P18.4: each frame of bags of all small sizes is taken: it comes as it was sent, and those behind it move up.
func TestTakeEach(t *testing.T) {
	for n := 1; n <= 9; n++ {
		for i := range n {
			p := fedPair(t, 9, n)
			was := p.also.under()
			if x := p.take(t, i); x != was[i] {
				t.Fatalf("Take(%d) of %d: %v, want %v", i, n, x, was[i])
			}
			tells(t, "what stays", p.b.All(), slices.Delete(was, i, i+1))
			if p.b.Len() != n-1 || p.b.Lost() != 0 {
				t.Fatalf("Take(%d) of %d: Len() %d, Lost() %d, want %d, 0", i, n, p.b.Len(), p.b.Lost(), n-1)
			}
			p.settled(t)
		}
	}
}

// P18.4, P18.5: each is dropped likewise, and is lost.
func TestDropEach(t *testing.T) {
	for n := 1; n <= 9; n++ {
		for i := range n {
			p := fedPair(t, 9, n)
			was := p.also.under()
			p.drop(t, i)
			tells(t, "what stays", p.b.All(), slices.Delete(was, i, i+1))
			if p.b.Len() != n-1 || p.b.Lost() != 1 {
				t.Fatalf("Drop(%d) of %d: Len() %d, Lost() %d, want %d, 1", i, n, p.b.Len(), p.b.Lost(), n-1)
			}
			p.settled(t)
		}
	}
}

// orders tell which frame is taken next out of a bag of n, till it is empty: the first one, the last one, one in the midst, others in turn.
func orders() []func(n int) int {
	return []func(n int) int{
		func(n int) int { return 0 },
		func(n int) int { return n - 1 },
		func(n int) int { return n / 2 },
		func(n int) int { return (n * 5 / 3) % n },
		func(n int) int { return (n * n / 3) % n },
		func(n int) int { return (n % 2) * (n - 1) },
	}
}

// P18.4: a bag is emptied in each of these orders, and told at each step.
func TestTakeAll(t *testing.T) {
	for w, next := range orders() {
		for _, room := range []int{1, 2, 5, 40} {
			p, x := fedPair(t, room, room), fedPair(t, room, room)
			for n := room; n > 0; n-- {
				p.take(t, next(n))
				p.isOne(t)
				x.drop(t, next(n))
				x.isOne(t)
			}
			if p.b.Len() != 0 || p.b.Lost() != 0 || x.b.Len() != 0 || x.b.Lost() != room {
				t.Errorf("order %d, room %d: Len() %d, Lost() %d; dropped: Len() %d, Lost() %d", w, room, p.b.Len(), p.b.Lost(), x.b.Len(), x.b.Lost())
			}
			p.settled(t)
			x.settled(t)
		}
	}
}

// P18.4: the greatest bag, too.
func TestTakeAllOfTheGreatest(t *testing.T) {
	for _, next := range orders() {
		p := fedPair(t, mostRoom, mostRoom)
		for n := mostRoom; n > 0; n-- {
			p.take(t, next(n))
		}
		p.settled(t)
	}
}

// P18.2, P18.4: a bag that is emptied and filled again, often: numbers go on, and there is as much room as there was.
func TestEmptiedAndFilled(t *testing.T) {
	for _, room := range []int{1, 2, 3, 8} {
		for _, next := range orders() {
			p := newPair(t, room)
			for round := range 30 {
				for i := range room {
					if n := p.send(t, i%allNodes, (i+1)%allNodes, "again"); n != round*room+i+1 {
						t.Fatalf("room %d, round %d: number %d, want %d", room, round, n, round*room+i+1)
					}
				}
				if n := p.send(t, 0, 1, "too many"); n != 0 {
					t.Fatalf("room %d, round %d: one too many is %d, want 0", room, round, n)
				}
				p.isOne(t)
				for n := room; n > 0; n-- {
					p.take(t, next(n))
				}
				p.isOne(t)
			}
			if n := p.b.Lost(); n != 30 {
				t.Errorf("room %d: Lost(): %d, want 30", room, n)
			}
		}
	}
}

// P18.2, P18.4: a full bag whose frames are taken one by one, each with another one behind it, as one does who delivers.
func TestTakenAndSent(t *testing.T) {
	for _, room := range []int{1, 2, 3, 16} {
		p := fedPair(t, room, room)
		for i := range 100 {
			if x := p.take(t, 0); x.num != i+1 {
				t.Fatalf("room %d: the frame %d comes as number %d", room, i, x.num)
			}
			if n := p.send(t, 1, 2, "behind"); n != room+i+1 {
				t.Fatalf("room %d: number %d, want %d", room, n, room+i+1)
			}
			p.isOne(t)
		}
	}
}

// P18.4: what was taken is there no more; its place has the one that was behind it.
func TestTakeAgain(t *testing.T) {
	p := fedPair(t, 4, 3)
	for want := 1; want <= 3; want++ {
		if x := p.take(t, 0); x.num != want {
			t.Errorf("Take(0): number %d, want %d", x.num, want)
		}
	}
	if x, e := p.b.Take(0); !nothing(x) || e != api.ErrNone {
		t.Errorf("Take(0) of an emptied bag: %v, error %d, want nothing, %d", seen(x), e, api.ErrNone)
	}
	p.settled(t)
}
