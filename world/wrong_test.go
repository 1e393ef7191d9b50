package world_test

import (
	"math"
	"testing"

	"tideline/api"
	"tideline/world"
)

// spoilt is o, with anything in the fields that the table does not name for its kind.
func spoilt(o api.Op) api.Op {
	bad := api.Op{Kind: o.Kind, Node: 99, Peer: -5, N: math.MinInt, Key: tooLongKey, Value: tooLongValue, Range: api.Range{Lo: "z", Hi: tooLongKey, Open: true}}
	if namesNode(o.Kind) {
		bad.Node = o.Node
	}
	switch o.Kind {
	case 1:
		bad.Key, bad.Value = o.Key, o.Value
	case 2, 3:
		bad.Key = o.Key
	case 4, 5:
		bad.Range = o.Range
	case 6:
		bad.Peer = o.Peer
	case 7, 8, 9:
		bad.N = o.N
	case 10:
		bad.Value = o.Value
	}
	return bad
}

// P20.2: fields that the table does not name for a kind are not looked at: each kind, with all others set to anything.
func TestOtherFields(t *testing.T) {
	plain, odd := made(t, 2, plainConfig()), made(t, 2, plainConfig())
	f := bytesOf(t, first(name(1, 1, 1), 0, other()))
	l := append(every(), put(1, "a", "x"), remove(1, "b"), open(1, 0), double(0), raw(1, f), raw(0, f), put(0, "c", "y"), scan(0, whole()), fold(0, rng("a", "c")), get(0, "a"), bag(), deliver(1), deliver(0), bag(), open(0, 1), open(0, 0), tick(0), tick(0), tick(0), talks(0), count(0), bag(), drop(9), drop(0), bag(), mapOf(0), crash(0), get(0, "a"), mapOf(0), start(0))
	for _, o := range l {
		a, e := plain.Do(o)
		b, wrong := odd.Do(spoilt(o))
		if !same(a, b) || e != wrong {
			t.Fatalf("Do(%s): %s, %d, want %s, %d", quoted(spoilt(o)), quoted(b), wrong, quoted(a), e)
		}
		if want, now := shoot(plain), shoot(odd); !now.is(want) {
			t.Fatalf("behind Do(%s): %s, want %s", quoted(spoilt(o)), quoted(now), quoted(want))
		}
	}
}

// P20.2: kinds that are none: ErrArg, whatever else the command has.
func TestNoKind(t *testing.T) {
	w := made(t, 2, plainConfig())
	all(t, w, put(0, "a", "x"), open(0, 1))
	for _, kind := range append(outside(1, kinds), 0, 18, 100) {
		refuses(t, w, api.Op{Kind: kind}, api.ErrArg)
		refuses(t, w, api.Op{Kind: kind, Node: 1, Peer: 0, Key: "a"}, api.ErrArg)
		refuses(t, w, api.Op{Kind: kind, Node: 2, Peer: -1, N: 7, Key: tooLongKey}, api.ErrArg)
	}
}

// P20.2: nodes that the world does not have: ErrNone, of each kind that has a Node, whatever else is wrong with it; the others don't look at it.
func TestNoNode(t *testing.T) {
	for nodes := 2; nodes <= mostNodes; nodes++ {
		w := made(t, nodes, plainConfig())
		for _, o := range every() {
			if !namesNode(o.Kind) {
				continue
			}
			for _, n := range append(outside(0, nodes-1), nodes, mostNodes) {
				wrong := o
				wrong.Node = n
				refuses(t, w, wrong, api.ErrNone)
				wrong.Key, wrong.Value, wrong.Range, wrong.Peer = tooLongKey, tooLongValue, rng("b", "a"), n
				refuses(t, w, wrong, api.ErrNone)
			}
		}
		all(t, w, open(0, 1))
		for _, o := range at(double(0), deliver(0), drop(0), bag()) {
			o.Node, o.Peer = nodes, -1
			all(t, w, o)
		}
	}
}

// P20.2: peers that the world does not have: ErrNone, ahead of all that the node says; a node that is its own peer: ErrArg, behind ErrDown.
func TestNoPeer(t *testing.T) {
	for nodes := 2; nodes <= mostNodes; nodes++ {
		w := made(t, nodes, plainConfig())
		for _, down := range []bool{false, true} {
			for _, peer := range append(outside(0, nodes-1), nodes, mostNodes-1+2) {
				refuses(t, w, open(0, peer), api.ErrNone)
			}
			if down {
				refuses(t, w, open(0, 0), api.ErrDown)
				refuses(t, w, open(0, 1), api.ErrDown)
			} else {
				refuses(t, w, open(0, 0), api.ErrArg)
				all(t, w, crash(0))
			}
		}
		for n := 1; n < nodes; n++ {
			refuses(t, w, open(n, n), api.ErrArg)
			tells(t, w, open(n, 0), api.Answer{Session: name(n, 1, 1)})
		}
	}
}

// P20.2: a frame that is there is taken out, whether its node is up or down; one that is not there is ErrNone, whoever is down.
func TestDeliverToDown(t *testing.T) {
	w := made(t, 2, plainConfig())
	all(t, w, open(0, 1), open(1, 0), crash(0), crash(1))
	refuses(t, w, deliver(2), api.ErrNone)
	errs(t, w, deliver(1), api.ErrDown)
	hasNums(t, w, 1)
	errs(t, w, deliver(0), api.ErrDown)
	hasNums(t, w)
	refuses(t, w, deliver(0), api.ErrNone)
	for n := range 2 {
		if k := counters(t, w, n); k != (api.Counters{Sent: 1}) {
			t.Errorf("%+v", k)
		}
	}
}

// P20.2, R4: beside each kind's answer all fields are zero that the table does not name for it.
func TestNoOtherAnswers(t *testing.T) {
	w := made(t, 2, plainConfig())
	all(t, w, put(0, "a", "x"), put(1, "b", "y"), open(0, 1), deliver(0), double(0))
	for _, o := range at(put(0, "c", ""), remove(0, "c"), get(0, "a"), scan(0, whole()), fold(0, whole()), open(1, 0), deliver(0), double(0), drop(0), raw(0, bytesOf(t, first(name(1, 1, 9), 0, other()))), tick(0), mapOf(1), talks(0), count(0), bag(), crash(0), start(0)) {
		a := do(t, w, o)
		if rest := without(a, o.Kind); !saysNothing(rest) {
			t.Errorf("Do(%s): %s", quoted(o), quoted(a))
		}
		if named := without(a, o.Kind); o.Kind < 7 && same(named, a) {
			t.Errorf("Do(%s): %s", quoted(o), quoted(a))
		}
	}
}

// without is a, but for what the table names for that kind.
func without(a api.Answer, kind int) api.Answer {
	switch kind {
	case 1, 2:
		a.Version = api.Version{}
	case 3, 4, 14:
		a.Entries = nil
	case 5:
		a.Tally = api.Tally{}
	case 6:
		a.Session = api.Name{}
	case 7, 10:
		a.Heard = api.Heard{}
	case 15:
		a.Talks = nil
	case 16:
		a.Counters = api.Counters{}
	case 17:
		a.Packets = nil
	}
	return a
}

// R1, R2: any numbers and texts in all fields at once: what is refused tells nothing, and no call panics.
func TestAnyFields(t *testing.T) {
	texts := []string{"", "a", longKey, tooLongKey, tooLongValue, string(make([]byte, 70000))}
	numbers := []int{0, 1, 2, -1, 17, math.MaxInt, math.MinInt}
	w := made(t, 2, plainConfig())
	also := made(t, 2, plainConfig())
	done := 0
	for kind := -1; kind <= kinds+1; kind++ {
		for i, n := range numbers {
			for j, text := range texts {
				o := api.Op{Kind: kind, Node: n, Peer: numbers[(i+j)%len(numbers)], N: numbers[(i+2*j)%len(numbers)], Key: text, Value: texts[(i+j)%len(texts)], Range: api.Range{Lo: text, Hi: texts[(j+1)%len(texts)], Open: i%2 == 0}}
				a, e := w.Do(o)
				b, wrong := also.Do(o)
				if !same(a, b) || e != wrong || e != api.OK && !saysNothing(a) {
					t.Fatalf("Do(%s): %s, %d and %s, %d", quoted(o), quoted(a), e, quoted(b), wrong)
				}
				if e == api.OK {
					done++
				}
			}
		}
	}
	if done < 100 || !shoot(w).is(shoot(also)) {
		t.Errorf("%d were done", done)
	}
}

// P20.4: most below 0: ErrArg, and nothing moves.
func TestCalmErrors(t *testing.T) {
	w := made(t, 2, plainConfig())
	notCalmed(t, w)
	all(t, w, put(0, "a", ""), open(0, 1))
	notCalmed(t, w)
}

func notCalmed(t *testing.T, w *world.World) {
	t.Helper()
	before := shoot(w)
	for _, rounds := range []int{-1, -2, math.MinInt32, math.MinInt} {
		if n, e := w.Calm(rounds); n != 0 || e != api.ErrArg {
			t.Errorf("Calm(%d): %d, %d", rounds, n, e)
		}
	}
	if now := shoot(w); !now.is(before) {
		t.Errorf("%s, want %s", quoted(now), quoted(before))
	}
}
