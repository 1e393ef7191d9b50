package world_test

import (
	"math"
	"math/rand/v2"
	"slices"
	"testing"

	"tideline/api"
	"tideline/world"
)

// runs asks that Run of the commands tells what Do of each does at a world that is alike, and leaves what these leave.
func runs(t *testing.T, w, also *world.World, l []api.Op) {
	t.Helper()
	answers, errors := w.Run(l)
	if len(answers) != len(l) || len(errors) != len(l) {
		t.Fatalf("%d commands: %d answers, %d errors", len(l), len(answers), len(errors))
	}
	for i, o := range l {
		if a, e := also.Do(o); !same(answers[i], a) || errors[i] != e {
			t.Fatalf("%d, %s: %s, %d, want %s, %d", i, quoted(o), quoted(answers[i]), errors[i], quoted(a), e)
		}
	}
	if now, want := shoot(w), shoot(also); !now.is(want) {
		t.Fatalf("%s, want %s", quoted(now), quoted(want))
	}
}

// P20.3: Run of nothing, of one command of each kind, of all of them.
func TestRun(t *testing.T) {
	w, also := made(t, 2, plainConfig()), made(t, 2, plainConfig())
	for _, l := range [][]api.Op{nil, {}, make([]api.Op, 0, 5), {{}}, {{Kind: 18}}} {
		runs(t, w, also, l)
	}
	for _, o := range every() {
		runs(t, w, also, at(o))
	}
	runs(t, w, also, every())
	runs(t, w, also, slices.Repeat(every(), 20))
	runs(t, w, also, nil)
}

// P20.3: what goes wrong stops nothing: each command's error stands at its place, OK among them.
func TestRunErrors(t *testing.T) {
	w := made(t, 2, plainConfig())
	answers, errors := w.Run(at(put(0, "a", "x"), put(2, "a", "x"), api.Op{}, crash(1), get(1, "a"), start(1), start(1), deliver(0), raw(0, ""), get(0, "a"), open(0, 0), remove(0, tooLongKey), scan(0, rng("b", "a")), open(0, 1), bag()))
	want := []api.Errno{0, api.ErrNone, api.ErrArg, 0, api.ErrDown, 0, api.ErrUp, api.ErrNone, api.ErrFrame, 0, api.ErrArg, api.ErrKey, api.ErrRange, 0, 0}
	if !slices.Equal(errors, want) {
		t.Errorf("%v, want %v", errors, want)
	}
	if answers[0].Version.Counter != 1 || len(answers[9].Entries) != 1 || answers[13].Session != name(0, 1, 1) || len(answers[14].Packets) != 1 {
		t.Errorf("%s", quoted(answers))
	}
	for i, e := range errors {
		if e != api.OK && !saysNothing(answers[i]) {
			t.Errorf("%d: %s beside %d", i, quoted(answers[i]), e)
		}
	}
}

// P20.3: many commands at once are what they are one by one, and in any pieces.
func TestRunMany(t *testing.T) {
	for seed := range uint64(5) {
		rnd := rand.New(rand.NewPCG(seed, 203))
		nodes := 2 + int(seed)
		w, also, whole := made(t, nodes, plainConfig()), made(t, nodes, plainConfig()), made(t, nodes, plainConfig())
		var l []api.Op
		for len(l) < 1500 {
			var piece []api.Op
			for range rnd.IntN(80) {
				piece = append(piece, someOp(rnd, nodes, oddKeys()))
			}
			runs(t, w, also, piece)
			l = append(l, piece...)
		}
		whole.Run(l)
		if now, want := shoot(whole), shoot(w); !now.is(want) {
			t.Fatalf("%s, want %s", quoted(now), quoted(want))
		}
	}
}

// someOp is a command of any kind, most of whose fields may be.
func someOp(rnd *rand.Rand, nodes int, keys []string) api.Op {
	o := someWrite(rnd, rnd.IntN(nodes), keys)
	o.Peer, o.N = (o.Node+1+rnd.IntN(nodes-1))%nodes, rnd.IntN(4)
	switch n := rnd.IntN(40); {
	case n < 12:
	case n < 15:
		o.Kind = api.OpOpen
	case n < 26:
		o.Kind = api.OpDeliver
	case n < 28:
		o.Kind = api.OpDrop
	case n < 30:
		o.Kind = api.OpDouble
	case n < 35:
		o.Kind = api.OpTick
	case n < 36:
		o.Kind = api.OpCrash
	case n < 38:
		o.Kind = api.OpStart
	default:
		o.Kind = rnd.IntN(kinds + 2)
		o.Node, o.Peer, o.N = rnd.IntN(nodes+2)-1, rnd.IntN(nodes+2)-1, rnd.IntN(8)-1
	}
	return o
}

// P20.4: Calm of 0, of fewer rounds than are needed, of just so many, of more.
func TestCalm(t *testing.T) {
	for _, rounds := range []int{0, 1, 2, 3, 4, 5, 9, lastTurn + 1, math.MaxInt} {
		w := made(t, 2, plainConfig())
		all(t, w, put(0, "a", "x"), open(0, 1))
		want := min(rounds, 4)
		if n, e := w.Calm(rounds); n != want || e != api.OK {
			t.Errorf("Calm(%d): %d, %d, want %d", rounds, n, e, want)
		}
		if l := frames(t, w); want < 4 && (len(l) != 1 || l[0].Turn != want) || want == 4 && len(l) != 0 {
			t.Errorf("behind Calm(%d): %s", rounds, briefly(l))
		}
		isCalm(t, w, 4-want)
		isCalm(t, w, 0)
	}
}

// P20.4: an empty bag: no round.
func TestCalmOfNothing(t *testing.T) {
	w := made(t, 3, plainConfig())
	isCalm(t, w, 0)
	all(t, w, open(0, 1), drop(0))
	isCalm(t, w, 0)
}

// P20.4: a round delivers as many frames as there were when it began, from the first one on: what these bring forth waits for the next one.
func TestRound(t *testing.T) {
	p := newPair(t, 4, plainConfig())
	for n := range 4 {
		p.steps(t, put(n, "k"+string(rune('a'+n)), ""), open(n, (n+1)%4), double(n))
	}
	for range 12 {
		p.calm(t, 1)
	}
	hasUnder(t, p.w)
	for rounds, want := range []int{8, 8, 0} {
		w := made(t, 2, plainConfig())
		all(t, w, open(0, 1))
		fill(t, w, 8)
		if n, _ := w.Calm(rounds); n != rounds || len(packets(t, w)) != want {
			t.Errorf("%d rounds: %d, %d frames", rounds, n, len(packets(t, w)))
		}
	}
}

// P20.4: whatever the frames answer, the round goes on: where nodes are down, where frames are stale, where there is no room.
func TestCalmThroughErrors(t *testing.T) {
	p := newPair(t, 4, plainConfig())
	p.steps(t, put(0, "a", ""), open(0, 1), open(0, 2), open(0, 3), open(3, 0), open(2, 1), open(1, 3), crash(1), crash(3), start(3))
	for n := range mostTalks - 1 {
		p.steps(t, raw(2, bytesOf(t, first(name(5, 1, n+1), 2, other()))))
	}
	var wrong []api.Errno
	also := made(t, 4, plainConfig())
	also.Run(p.done())
	for len(packets(t, also)) > 0 {
		_, e := also.Do(deliver(0))
		wrong = append(wrong, e)
	}
	for _, e := range []api.Errno{api.OK, api.ErrDown, api.ErrStale, api.ErrBusy} {
		if !slices.Contains(wrong, e) {
			t.Errorf("%v: no %d: the test tells little", wrong, e)
		}
	}
	p.calm(t, 100)
	hasUnder(t, p.w)
	if now, want := shoot(p.w), shoot(also); !now.is(want) {
		t.Errorf("%s, want %s", quoted(now), quoted(want))
	}
}

// P20.4: a bag that is full is emptied, too.
func TestCalmOfFullBag(t *testing.T) {
	p := newPair(t, 2, plainConfig())
	for _, o := range at(put(0, "a", "x"), put(1, "b", ""), open(0, 1)) {
		p.do(t, o)
	}
	for range room + 3 {
		p.do(t, double(0))
	}
	p.isOne(t, "a full bag")
	p.calm(t, 1)
	p.calm(t, 2)
	p.calm(t, 1000)
	hasUnder(t, p.w)
	if x, y := p.w.Map(0), p.w.Map(1); len(x) != 2 || !slices.Equal(x, y) {
		t.Errorf("%s and %s", quoted(x), quoted(y))
	}
}

// P20.4: no round is needed behind MaxTurn + 1 of them, whatever is under way.
func TestCalmEnds(t *testing.T) {
	for seed := range uint64(20) {
		rnd := rand.New(rand.NewPCG(seed, 204))
		nodes := 2 + rnd.IntN(7)
		w := made(t, nodes, sampleConfigs()[rnd.IntN(len(sampleConfigs()))])
		for range 600 {
			w.Do(someOp(rnd, nodes, numbered(0, 60)))
		}
		n, e := w.Calm(math.MaxInt)
		if e != api.OK || n > lastTurn+1 {
			t.Errorf("%d rounds, %d", n, e)
		}
		isCalm(t, w, 0)
	}
}
