package bag_test

import (
	"fmt"
	"math/rand/v2"
	"testing"
)

// anyPlace is mostly that of a frame.
func anyPlace(dice *rand.Rand, n int) int {
	ends := []int{-1, 0, n - 1, n, n + 1, least, most}
	if n == 0 || dice.IntN(5) == 0 {
		return ends[dice.IntN(len(ends))]
	}
	return dice.IntN(n)
}

// anyNode is mostly one.
func anyNode(dice *rand.Rand) int {
	ends := []int{-1, 8, least, most}
	if dice.IntN(12) == 0 {
		return ends[dice.IntN(len(ends))]
	}
	return dice.IntN(allNodes)
}

func anyBytes(dice *rand.Rand) []byte {
	if dice.IntN(100) == 0 {
		return make([]byte, mostBytes+dice.IntN(2))
	}
	return []byte(fmt.Sprint(dice.Uint64()))[:dice.IntN(5)]
}

// anyCall is one of all calls, with all kinds of arguments; sends are as many as what takes frames out.
func anyCall(t *testing.T, p pair, dice *rand.Rand) {
	t.Helper()
	n := p.b.Len()
	switch dice.IntN(7) {
	case 0, 1, 2:
		p.sendBytes(t, anyNode(dice), anyNode(dice), anyBytes(dice))
	case 3, 4:
		p.take(t, anyPlace(dice, n))
	case 5:
		p.drop(t, anyPlace(dice, n))
	case 6:
		p.double(t, anyPlace(dice, n))
	}
}

// P18.2 to P18.6, R6: any calls, held against the second reading; iterators that were asked for on the way are gone through at the end.
func TestAnyCalls(t *testing.T) {
	for seed := range uint64(80) {
		dice := rand.New(rand.NewPCG(18, seed))
		p := newPair(t, 1+dice.IntN(9))
		var before []asked
		for range 200 {
			if dice.IntN(8) == 0 {
				before = append(before, asked{p.b.All(), p.also.under()})
			}
			anyCall(t, p, dice)
			p.isOne(t)
		}
		for _, a := range before {
			a.tells(t, nil)
		}
		p.settled(t)
	}
}

// P18.2 to P18.5: likewise of the greatest bag, while it is full, nearly full, and nearly empty.
func TestAnyCallsOfTheGreatest(t *testing.T) {
	dice := rand.New(rand.NewPCG(18, 512))
	p := fedPair(t, mostRoom, mostRoom)
	for range 300 {
		anyCall(t, p, dice)
	}
	p.isOne(t)
	p.feed(t, mostRoom-p.b.Len())
	p.isOne(t)
	for p.b.Len() > 5 {
		p.take(t, dice.IntN(p.b.Len()))
	}
	for range 100 {
		anyCall(t, p, dice)
		p.isOne(t)
	}
	p.settled(t)
}

// R5: two bags that are told the same tell the same, whatever a third one is told meanwhile.
func TestSameCallsSameAnswers(t *testing.T) {
	for seed := range uint64(20) {
		one, other, third := rand.New(rand.NewPCG(18, seed)), rand.New(rand.NewPCG(18, seed)), rand.New(rand.NewPCG(seed, 18))
		x, y, z := newPair(t, 5), newPair(t, 5), newPair(t, 5)
		for range 100 {
			anyCall(t, x, one)
			anyCall(t, z, third)
			anyCall(t, y, other)
			tells(t, "the second bag", y.b.All(), gone(t, x.b.All()))
			if x.b.Lost() != y.b.Lost() || x.b.Len() != y.b.Len() {
				t.Fatalf("Lost() %d and %d, Len() %d and %d", x.b.Lost(), y.b.Lost(), x.b.Len(), y.b.Len())
			}
		}
		x.settled(t)
		y.settled(t)
		z.settled(t)
	}
}
