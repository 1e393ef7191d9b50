package mix_test

import (
	"math"
	"math/big"
	"math/rand/v2"
	"strings"

	"tideline/api"
)

const most = math.MaxUint64

func version(counter, node int) api.Version { return api.Version{Counter: counter, Node: node} }

func entry(key string, counter, node int) api.Entry {
	return api.Entry{Key: key, Version: version(counter, node)}
}

// anyNumbers are Counters and Nodes, those too that may not be.
func anyNumbers() []int {
	return []int{math.MinInt, math.MinInt + 1, -1 << 32, -2, -1, 0, 1, 2, 7, 8, 255, 256, 1<<32 - 1, 1 << 32, 1 << 40, 1<<40 + 1, math.MaxInt - 1, math.MaxInt}
}

// anyKeys are texts of each length up to three words and more, those too that are no keys.
func anyKeys() []string {
	var l []string
	for n := range 27 {
		l = append(l, strings.Repeat("\x00", n), strings.Repeat("\xff", n), strings.Repeat("k", n), "abcdefghijklmnopqrstuvwxyz"[:n])
	}
	return append(l, "\xff\x00", "\x00\xff", "a\x00", "\x00a", "äöü", "\xf0\x28\x8c\x28", strings.Repeat("\xff\x00", 8), strings.Repeat("ab", 500)+"c")
}

// anyEntries are entries with and without values, dead or not, those too that may not be.
func anyEntries() []api.Entry {
	var l []api.Entry
	for i, key := range anyKeys() {
		e := entry(key, anyNumbers()[i%len(anyNumbers())], i%9)
		e.Value = strings.Repeat("v", i%3*17)
		e.Dead = i%2 == 0
		l = append(l, e)
	}
	return l
}

// anySums are sums whose lanes are unlike, at their ends and between.
func anySums() []api.Sum {
	var l []api.Sum
	numbers := []uint64{0, 1, 2, 15, 1<<32 - 1, 1 << 32, 1<<63 - 1, 1 << 63, 1<<63 + 1, 0x0123456789abcdef, most - 1, most}
	for _, a := range numbers {
		for _, b := range numbers {
			l = append(l, api.Sum{a, b})
		}
	}
	return l
}

func someSum(rnd *rand.Rand) api.Sum { return api.Sum{rnd.Uint64(), rnd.Uint64()} }

func someBytes(rnd *rand.Rand, most int) string {
	b := make([]byte, rnd.IntN(most+1))
	for i := range b {
		b[i] = byte(rnd.IntN(256))
	}
	return string(b)
}

func someEntry(rnd *rand.Rand) api.Entry {
	e := entry(someBytes(rnd, 20), int(rnd.Uint64()), int(rnd.Uint64()))
	e.Value = someBytes(rnd, 40)
	e.Dead = rnd.IntN(2) == 0
	return e
}

func someEntries(rnd *rand.Rand, count int) []api.Entry {
	var l []api.Entry
	for range count {
		l = append(l, someEntry(rnd))
	}
	return l
}

func number(hex string) *big.Int {
	n, _ := new(big.Int).SetString(hex, 16)
	return n
}

func modulus() *big.Int { return new(big.Int).Lsh(big.NewInt(1), 64) }

// wordsOf goes by the chapter's list: how many bytes, the bytes, the Counter, the Node.
func wordsOf(key string, v api.Version) []*big.Int {
	l := []*big.Int{big.NewInt(int64(len(key)))}
	for i := range len(key) {
		if i%8 == 0 {
			l = append(l, new(big.Int))
		}
		b := big.NewInt(int64(key[i]))
		l[len(l)-1].Add(l[len(l)-1], b.Lsh(b, uint(i%8*8)))
	}
	for _, n := range []int{v.Counter, v.Node} {
		// Mod is never below 0: so a number below 0 stands as in two's complement.
		l = append(l, new(big.Int).Mod(big.NewInt(int64(n)), modulus()))
	}
	return l
}

// laneOf mixes by numbers of any size: what goes beyond 64 bits is taken away by a division.
func laneOf(begin, factor string, shift uint, words []*big.Int) uint64 {
	lane := number(begin)
	for _, word := range words {
		lane.Xor(lane, word)
		lane.Mul(lane, number(factor))
		lane.Mod(lane, modulus())
		lane.Xor(lane, new(big.Int).Rsh(lane, shift))
	}
	return lane.Uint64()
}

func sumOf(key string, v api.Version) api.Sum {
	words := wordsOf(key, v)
	return api.Sum{
		laneOf("243f6a8885a308d3", "9e3779b97f4a7c15", 29, words),
		laneOf("13198a2e03707344", "c2b2ae3d27d4eb4f", 32, words),
	}
}

// modulo tells a number as it is modulo 2^64.
func modulo(n *big.Int) uint64 { return new(big.Int).Mod(n, modulus()).Uint64() }

func wide(u uint64) *big.Int { return new(big.Int).SetUint64(u) }
