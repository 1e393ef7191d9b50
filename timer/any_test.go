package timer_test

import (
	"iter"
	"math/rand/v2"
	"slices"
	"testing"

	"tideline/api"
	"tideline/timer"
)

// held is an iterator that was asked for earlier, and what it must tell.
type held struct {
	rows iter.Seq2[api.Name, int]
	want []alarm
}

func anyName(dice *rand.Rand) api.Name {
	if dice.IntN(4) > 0 {
		return name(dice.IntN(3)-1, dice.IntN(3)-1, dice.IntN(3)-1)
	}
	one := func() int { return odd()[dice.IntN(len(odd()))] }
	return name(one(), one(), one())
}

func anyTime(dice *rand.Rand) int {
	ends := []int{0, 1, last - 1, last, -1, last + 1, least, most}
	if dice.IntN(3) > 0 {
		return dice.IntN(6)
	}
	return ends[dice.IntN(len(ends))]
}

// P15.1, P15.2, P15.3, R5, R6: any calls, held against a plain list; iterators that were asked for on the way are gone through at the end.
func TestAnyCalls(t *testing.T) {
	for seed := range uint64(60) {
		dice := rand.New(rand.NewPCG(15, seed))
		x := timer.New()
		var want plain
		var before []held
		for range 200 {
			n := anyName(dice)
			switch dice.IntN(6) {
			case 0, 1, 2:
				at := anyTime(dice)
				wrong := at < 0 || at > last
				if e := x.Set(n, at); (e == api.ErrArg) != wrong || (e == api.OK) == wrong {
					t.Fatalf("Set of %v: error %d", alarm{n, at}, e)
				}
				if !wrong {
					want = want.set(n, at)
				}
			case 3, 4:
				if is := x.Drop(n); is != (want.find(n) >= 0) {
					t.Fatalf("Drop(%v): %t, of %v", n, is, want)
				}
				want = want.drop(n)
				isNot(t, x, n)
			case 5:
				now := anyTime(dice)
				before = append(before, held{x.Due(now), want.due(now)})
			}
			if len(want) == 0 {
				hasNone(t, x)
			} else {
				isNext(t, x, want.due(most)[0])
			}
		}
		isSame(t, x, want)
		for _, h := range before {
			if l := gone(h.rows); !slices.Equal(l, h.want) {
				t.Fatalf("seed %d: one asked for earlier tells %v, want %v", seed, l, h.want)
			}
		}
	}
}

// R5: two timers with the same alarms, set in unlike orders and with others dropped on the way, tell the same.
func TestSameByOtherWays(t *testing.T) {
	dice := rand.New(rand.NewPCG(15, 5))
	for range 30 {
		var all plain
		for range 40 {
			all = all.set(anyName(dice), dice.IntN(4))
		}
		x := made(t, all...)
		y := timer.New()
		for _, i := range dice.Perm(len(all)) {
			set(t, y, name(i, 77, 77), i)
			set(t, y, all[i].name, dice.IntN(9))
			set(t, y, all[i].name, all[i].at)
			y.Drop(name(i, 77, 77))
		}
		isSame(t, x, all)
		isSame(t, y, all)
	}
}
