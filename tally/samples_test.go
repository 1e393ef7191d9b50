package tally_test

import (
	"math"
	"math/big"
	"math/rand/v2"
	"slices"
	"strings"

	"tideline/api"
	"tideline/mix"
)

const most = math.MaxUint64

func tallyOf(count int, lane0, lane1 uint64) api.Tally {
	return api.Tally{Count: count, Sum: api.Sum{lane0, lane1}}
}

func entry(key string, counter, node int) api.Entry {
	return api.Entry{Key: key, Version: api.Version{Counter: counter, Node: node}}
}

// anyTallies have Counts below 0 too, and Sums that no entries come to.
func anyTallies() []api.Tally {
	var l []api.Tally
	for _, count := range []int{math.MinInt, math.MinInt + 1, -1 << 32, -2, -1, 0, 1, 2, 3, 256, 1 << 32, 1 << 62, math.MaxInt - 1, math.MaxInt} {
		for _, s := range []api.Sum{{0, 0}, {0, 1}, {1, 0}, {2, 1}, {1 << 63, 1<<63 - 1}, {most, 0}, {0, most}, {most, most}} {
			l = append(l, api.Tally{Count: count, Sum: s})
		}
	}
	return l
}

// anyEntries are entries of all sorts, the same one twice among them; those too that may not be.
func anyEntries() []api.Entry {
	l := []api.Entry{{}, {}, {Dead: true}, {Value: "v"}}
	for i, key := range []string{"", "a", "b", "\x00\xff", "abcdefgh", "abcdefghi", strings.Repeat("k", 16), strings.Repeat("k", 17), strings.Repeat("ab", 500)} {
		for j, counter := range []int{math.MinInt, -1, 0, 1, 2, 1 << 40, 1<<40 + 1, math.MaxInt} {
			node := []int{0, 1, 7, 8, -1, math.MinInt, math.MaxInt}[(i+j)%7]
			e := entry(key, counter, node)
			e.Value = strings.Repeat("v", (i+j)%3*17)
			e.Dead = j%2 == 0
			l = append(l, e)
		}
	}
	return l
}

func someTally(rnd *rand.Rand) api.Tally {
	return tallyOf(int(rnd.Uint64()), rnd.Uint64(), rnd.Uint64())
}

// someEntries are entries of anyEntries in any order, some of them more than once.
func someEntries(rnd *rand.Rand, count int) []api.Entry {
	from := anyEntries()
	var l []api.Entry
	for range count {
		l = append(l, from[rnd.IntN(len(from))])
	}
	return l
}

func shuffled(rnd *rand.Rand, l []api.Entry) []api.Entry {
	l = slices.Clone(l)
	rnd.Shuffle(len(l), func(i, j int) { l[i], l[j] = l[j], l[i] })
	return l
}

// modulo tells the lowest 64 bits of a number.
func modulo(n *big.Int) uint64 {
	return new(big.Int).Mod(n, new(big.Int).Lsh(big.NewInt(1), 64)).Uint64()
}

func wide(u uint64) *big.Int { return new(big.Int).SetUint64(u) }

// joined adds by numbers of any size, of which 64 bits are kept: a second reading of P5.1.
func joined(l ...api.Tally) api.Tally {
	count, lane0, lane1 := new(big.Int), new(big.Int), new(big.Int)
	for _, t := range l {
		count.Add(count, big.NewInt(int64(t.Count)))
		lane0.Add(lane0, wide(t.Sum[0]))
		lane1.Add(lane1, wide(t.Sum[1]))
	}
	return tallyOf(int(modulo(count)), modulo(lane0), modulo(lane1))
}

// counted goes by the words of a tally: how many, and the sum of what mix.Of makes of each.
func counted(l []api.Entry) api.Tally {
	var each []api.Tally
	for _, e := range l {
		each = append(each, api.Tally{Count: 1, Sum: mix.Of(e.Key, e.Version)})
	}
	return joined(each...)
}
