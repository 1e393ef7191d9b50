package bag_test

import "testing"

// P18.5: each of the three ways in which a frame is lost counts one, and no other call counts.
func TestLostByEachWay(t *testing.T) {
	p := fedPair(t, 2, 2)
	for i, x := range []struct {
		what string
		do   func()
		want int
	}{
		{"two frames came in", func() {}, 0},
		{"Send without room", func() { p.send(t, 0, 1, "x") }, 1},
		{"Double without room", func() { p.double(t, 1) }, 2},
		{"Drop", func() { p.drop(t, 1) }, 3},
		{"Take", func() { p.take(t, 0) }, 3},
		{"Send", func() { p.send(t, 0, 1, "y") }, 3},
		{"Double", func() { p.double(t, 0) }, 3},
		{"Drop of none", func() { p.drop(t, 2) }, 3},
		{"Take of none", func() { p.take(t, -1) }, 3},
		{"Double of none, without room", func() { p.double(t, 2) }, 3},
		{"Send to none, without room", func() { p.send(t, 0, 8, "x") }, 3},
		{"Send of too much, without room", func() { p.sendBytes(t, 0, 1, make([]byte, mostBytes+1)) }, 3},
		{"Send without room", func() { p.send(t, 1, 0, "") }, 4},
		{"Drop", func() { p.drop(t, 0) }, 5},
		{"Drop of the last one", func() { p.drop(t, 0) }, 6},
		{"Drop of none", func() { p.drop(t, 0) }, 6},
		{"Double of none", func() { p.double(t, 0) }, 6},
	} {
		x.do()
		if n := p.b.Lost(); n != x.want {
			t.Errorf("%d, %s: Lost(): %d, want %d", i, x.what, n, x.want)
		}
		p.isOne(t)
	}
	p.settled(t)
}

// P18.5: far more may be lost than there is room for.
func TestLostMany(t *testing.T) {
	for _, room := range []int{1, 3, mostRoom} {
		p := fedPair(t, room, room)
		for range 700 {
			if n, _ := p.b.Send(3, 2, []byte("x")); n != 0 {
				t.Fatalf("room %d: Send in a full bag: %d", room, n)
			}
			if n, _ := p.b.Double(room - 1); n != 0 {
				t.Fatalf("room %d: Double in a full bag: %d", room, n)
			}
		}
		p.also.lost = 1400
		for range room {
			p.drop(t, 0)
		}
		if n := p.b.Lost(); n != 1400+room {
			t.Errorf("room %d: Lost(): %d, want %d", room, n, 1400+room)
		}
		p.settled(t)
	}
}
