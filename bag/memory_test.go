package bag_test

import (
	"runtime"
	"slices"
	"testing"
	"weak"

	"tideline/api"
)

// roomy is a copy of bytes with spare room, with bytes in it.
func roomy(b []byte) []byte {
	l := append(slices.Clone(b), make([]byte, 100)...)
	for i := range l[len(b):] {
		l[len(b)+i] = byte(i + 1)
	}
	return l[:len(b)]
}

// spoil writes over bytes, and over their spare room.
func spoil(b []byte) {
	b = b[:cap(b)]
	for i := range b {
		b[i] = ^b[i]
	}
}

// texts are bytes of many lengths, those among them that small and great ones end at.
func texts() []string {
	var l []string
	for _, n := range []int{0, 1, 2, 7, 8, 9, 15, 16, 17, 31, 32, 33, 100, 4096, 65535, mostBytes} {
		b := make([]byte, n)
		for i := range b {
			b[i] = byte(i*7 + n)
		}
		l = append(l, string(b))
	}
	return l
}

// R3: bytes that are handed in are not changed, nor what lies behind them; and they are not kept.
func TestSentIsApart(t *testing.T) {
	p := newPair(t, 40)
	for _, text := range texts() {
		own := roomy([]byte(text))
		was := slices.Clone(own[:cap(own)])
		p.sendBytes(t, 1, 0, own)
		p.isOne(t)
		p.double(t, p.b.Len()-1)
		if !slices.Equal(own[:cap(own)], was) {
			t.Fatalf("Send of %d bytes: they were changed", len(text))
		}
		spoil(own)
		p.isOne(t)
	}
	p.settled(t)
}

// R3: likewise where the frame is lost, or refused.
func TestLostIsApart(t *testing.T) {
	p := fedPair(t, 1, 1)
	for _, x := range []struct{ from, to, bytes int }{{0, 1, 9}, {0, 0, 9}, {8, 1, 9}, {0, 1, mostBytes + 1}} {
		own := roomy(make([]byte, x.bytes))
		was := slices.Clone(own[:cap(own)])
		p.sendBytes(t, x.from, x.to, own)
		if !slices.Equal(own[:cap(own)], was) {
			t.Fatalf("Send(%d, %d, %d bytes): they were changed", x.from, x.to, x.bytes)
		}
		spoil(own)
		p.isOne(t)
	}
	p.settled(t)
}

// R3: one memory, handed in again and again with other bytes, as a buffer is.
func TestSentFromOneBuffer(t *testing.T) {
	p := newPair(t, mostRoom)
	buffer := make([]byte, 300)
	for i := range mostRoom {
		buffer[i%300], buffer[0] = byte(i), byte(i/3)
		p.sendBytes(t, i%8, (i+3)%8, buffer[:i%301])
	}
	spoil(buffer)
	p.settled(t)
}

// R3, P18.3: the bytes that All tells are the caller's: new memory each time, also within one iterator that is ranged over again, and within itself.
func TestAllIsApart(t *testing.T) {
	p := newPair(t, 40)
	for _, text := range texts() {
		p.send(t, 4, 1, text)
	}
	p.double(t, 9)
	was, rows := p.also.under(), p.b.All()
	for i, x := range rows {
		for j, y := range rows {
			if seen(y) != was[j] {
				t.Fatalf("within itself at %d: %v, want %v", i, seen(y), was[j])
			}
			spoil(y.Data)
		}
		if seen(x) != was[i] {
			t.Fatalf("%d was spoilt by others: %v, want %v", i, seen(x), was[i])
		}
		spoil(x.Data)
		tells(t, "All() of now", p.b.All(), was)
	}
	tells(t, "ranged over again", rows, was)
	p.settled(t)
	tells(t, "and when all were taken", rows, was)
}

// R3: what stands in spare room of answers is no other answer.
func TestAllIsApartInItsSpareRoom(t *testing.T) {
	p := newPair(t, 40)
	for _, text := range texts() {
		p.send(t, 4, 1, text)
		p.send(t, 1, 4, text)
	}
	var told []api.Packet
	for _, x := range p.b.All() {
		told = append(told, x)
	}
	for range p.b.Len() {
		x, _ := p.b.Take(0)
		told = append(told, x)
	}
	was := slices.Concat(p.also.came, p.also.came)
	for i := range told {
		for j := i; j < len(told); j++ {
			if seen(told[j]) != was[j] {
				t.Fatalf("%d was changed with %d: %v, want %v", j, i-1, seen(told[j]), was[j])
			}
		}
		spoil(told[i].Data)
	}
}

// R3, P18.4: the bytes that Take tells are the caller's: no iterator and no double has them.
func TestTakenIsApart(t *testing.T) {
	for _, text := range texts() {
		p := newPair(t, 5)
		p.send(t, 4, 1, text)
		first := asked{p.b.All(), p.also.under()}
		p.double(t, 0)
		p.double(t, 1)
		all := asked{p.b.All(), p.also.under()}
		for n := 3; n > 0; n-- {
			x, e := p.b.Take(n / 2)
			want, _ := p.also.take(n / 2)
			if seen(x) != want || e != api.OK {
				t.Fatalf("Take(%d): %v, error %d, want %v", n/2, seen(x), e, want)
			}
			spoil(x.Data)
			p.isOne(t)
			first.tells(t, nil)
			all.tells(t, nil)
		}
		p.settled(t)
	}
}

// R3: what a bag told is handed in again, to it and to another one, and written over.
func TestToldIsHandedIn(t *testing.T) {
	p, q := newPair(t, 30), newPair(t, 30)
	for _, text := range texts() {
		p.send(t, 4, 1, text)
		x, _ := p.b.Take(0)
		p.also.take(0)
		p.sendBytes(t, 1, 4, x.Data)
		q.sendBytes(t, 1, 4, x.Data)
		spoil(x.Data)
		for _, y := range q.b.All() {
			p.sendBytes(t, 5, 6, y.Data)
			spoil(y.Data)
			p.drop(t, p.b.Len()-1)
		}
		p.take(t, 0)
		p.isOne(t)
		q.isOne(t)
	}
	p.settled(t)
	q.settled(t)
}

// R3: bytes that were handed in are given back, though their frame is in the bag; also where none of them is its own.
func TestSentIsNotKept(t *testing.T) {
	b := newBag(t, 9)
	var handed []weak.Pointer[byte]
	for _, n := range []int{0, 1, 500, 1000} {
		own := make([]byte, 1000)
		handed = append(handed, weak.Make(&own[0]))
		b.Send(0, 1, own[:n])
		b.Double(b.Len() - 1)
	}
	runtime.GC()
	runtime.GC()
	for i, w := range handed {
		if w.Value() != nil {
			t.Errorf("the bytes %d are kept", i)
		}
	}
	if b.Len() != 8 {
		t.Errorf("Len(): %d, want 8", b.Len())
	}
	runtime.KeepAlive(b)
}

// heap is how many bytes the program holds.
func heap() int {
	runtime.GC()
	runtime.GC()
	var m runtime.MemStats
	runtime.ReadMemStats(&m)
	return int(m.HeapAlloc)
}

// What is in the bag no more is not kept, in whatever order it left: no promise needs it.
func TestGoneIsNotKept(t *testing.T) {
	for w, next := range orders() {
		b := newBag(t, mostRoom)
		own := make([]byte, mostBytes)
		before := heap()
		for range mostRoom {
			b.Send(0, 1, own)
		}
		if n := heap() - before; n < mostRoom*mostBytes/2 {
			t.Fatalf("order %d: %d bytes for a full bag", w, n)
		}
		for n := mostRoom; n > 2; n-- {
			if n%2 == 0 {
				b.Take(next(n))
			} else {
				b.Drop(next(n))
			}
		}
		if n := heap() - before; n > mostRoom*mostBytes/8 {
			t.Errorf("order %d: %d bytes for a bag of 2 frames", w, n)
		}
		runtime.KeepAlive(b)
		runtime.KeepAlive(own)
	}
}
