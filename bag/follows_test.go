package bag_test

import (
	"fmt"
	"math/rand/v2"
	"testing"

	"tideline/api"
	"tideline/bag"
)

// book keeps what P18.6 speaks of, by what the bag answers alone.
type book struct {
	b       *bag.Bag
	sent    map[packet]bool // without numbers
	numbers map[int]string  // what became of each that was answered
	lost    int
}

func newBook(t *testing.T, room int) *book {
	t.Helper()
	return &book{b: newBag(t, room), sent: map[packet]bool{}, numbers: map[int]string{}}
}

// gave notes a number that was answered.
func (k *book) gave(t *testing.T, n int, e api.Errno) {
	t.Helper()
	switch {
	case e != api.OK:
		t.Fatalf("error %d, want OK", e)
	case n == 0:
		k.lost++
	case k.numbers[n] != "":
		t.Fatalf("the number %d was answered before", n)
	default:
		k.numbers[n] = "in the bag"
	}
}

// left notes what became of a number that was in the bag.
func (k *book) left(t *testing.T, x packet, how string) {
	t.Helper()
	if k.numbers[x.num] != "in the bag" {
		t.Fatalf("the number %d was %s, and is %s now", x.num, k.numbers[x.num], how)
	}
	k.isSent(t, x)
	k.numbers[x.num] = how
}

func (k *book) isSent(t *testing.T, x packet) {
	t.Helper()
	if !k.sent[packet{0, x.from, x.to, x.data}] {
		t.Fatalf("%v was never sent", x)
	}
}

// at is the frame i, as All tells it.
func (k *book) at(t *testing.T, i int) packet {
	t.Helper()
	return gone(t, k.b.All())[i]
}

func (k *book) step(t *testing.T, dice *rand.Rand) {
	t.Helper()
	n := k.b.Len()
	if n == 0 || dice.IntN(2) == 0 {
		from := dice.IntN(allNodes)
		to := (from + 1 + dice.IntN(allNodes-1)) % allNodes
		data := fmt.Sprint(dice.IntN(50))
		k.sent[packet{0, from, to, data}] = true
		num, e := k.b.Send(from, to, []byte(data))
		k.gave(t, num, e)
		return
	}
	i := dice.IntN(n)
	was := k.at(t, i)
	switch dice.IntN(3) {
	case 0:
		x, e := k.b.Take(i)
		if seen(x) != was || e != api.OK {
			t.Fatalf("Take(%d): %v, error %d, want %v", i, seen(x), e, was)
		}
		k.left(t, was, "taken")
	case 1:
		if e := k.b.Drop(i); e != api.OK {
			t.Fatalf("Drop(%d): error %d", i, e)
		}
		k.lost++
		k.left(t, was, "dropped")
	default:
		num, e := k.b.Double(i)
		k.gave(t, num, e)
	}
}

// settled: each number that was answered is that of a frame that was taken, was dropped, or is in the bag; and no other is in it.
func (k *book) settled(t *testing.T) {
	t.Helper()
	in := map[int]bool{}
	for _, x := range gone(t, k.b.All()) {
		if in[x.num] || k.numbers[x.num] != "in the bag" {
			t.Fatalf("%v is in the bag, and was %s", x, k.numbers[x.num])
		}
		in[x.num] = true
		k.isSent(t, x)
	}
	for n, how := range k.numbers {
		if n < 1 || n > len(k.numbers) {
			t.Fatalf("the number %d of %d", n, len(k.numbers))
		}
		if how == "in the bag" && !in[n] {
			t.Fatalf("the number %d is gone", n)
		}
	}
	if n := k.b.Lost(); n != k.lost {
		t.Fatalf("Lost(): %d, want %d", n, k.lost)
	}
}

// P18.6: nothing comes that was not sent, and each number is one frame's, whatever is done.
func TestNothingComesThatWasNotSent(t *testing.T) {
	for seed := range uint64(30) {
		for _, room := range []int{1, 2, 5, 12, mostRoom} {
			dice := rand.New(rand.NewPCG(18, seed))
			k := newBook(t, room)
			for range 150 {
				k.step(t, dice)
			}
			k.settled(t)
			for k.b.Len() > 0 {
				x, _ := k.b.Take(dice.IntN(k.b.Len()))
				k.left(t, seen(x), "taken")
			}
			k.settled(t)
		}
	}
}

// P18.2, P18.4: numbers rise through the bag, as frames came in, whatever was taken from it.
func TestNumbersRise(t *testing.T) {
	dice := rand.New(rand.NewPCG(18, 77))
	k := newBook(t, 20)
	for range 400 {
		k.step(t, dice)
		last := 0
		for _, x := range gone(t, k.b.All()) {
			if x.num <= last {
				t.Fatalf("%v stands behind the number %d", x, last)
			}
			last = x.num
		}
	}
}
