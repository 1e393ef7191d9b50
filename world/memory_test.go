package world_test

import (
	"math"
	"slices"
	"testing"

	"tideline/api"
	"tideline/world"
)

// busyWorld has entries, sessions and frames under way.
func busyWorld(t *testing.T) *world.World {
	t.Helper()
	w := made(t, 3, plainConfig())
	all(t, w, put(0, "a", "x"), put(0, "b", "y"), remove(0, "c"), put(1, "b", "z"), open(0, 1), open(1, 2), open(2, 0), deliver(0), double(0), open(0, 2), double(3), double(0))
	return w
}

// spoil writes over all that an answer has, and over its spare room.
func spoil(a api.Answer) {
	spoilEntries(a.Entries)
	for _, x := range a.Packets[:cap(a.Packets)] {
		data := x.Data[:cap(x.Data)]
		for i := range data {
			data[i] = 0xEE
		}
	}
	packets := a.Packets[:cap(a.Packets)]
	for i := range packets {
		packets[i] = api.Packet{Num: -1, From: 7, To: 7}
	}
	all := a.Talks[:cap(a.Talks)]
	for i := range all {
		all[i] = api.Talk{Peer: -1, Turn: -1}
	}
}

func spoilEntries(l []api.Entry) {
	l = l[:cap(l)]
	for i := range l {
		l[i] = entry(tooLongKey, math.MaxInt, -1, tooLongValue)
	}
}

// asked are the commands whose answers have lists.
func asked() []api.Op {
	return at(get(0, "a"), scan(0, whole()), mapOf(0), talks(0), bag(), mapOf(1), talks(1), talks(2), get(1, "b"), scan(0, rng("a", "c")))
}

// R3: what comes out is the caller's: whatever is done to it, the world tells what it told before.
func TestAnswersAreNew(t *testing.T) {
	w := busyWorld(t)
	before := shoot(w)
	for _, o := range asked() {
		a := do(t, w, o)
		if len(a.Entries)+len(a.Talks)+len(a.Packets) == 0 {
			t.Fatalf("%s: nothing: the test tells little", quoted(o))
		}
		spoil(a)
		if now := shoot(w); !now.is(before) {
			t.Fatalf("behind %s: %s, want %s", quoted(o), quoted(now), quoted(before))
		}
	}
	for n := range 3 {
		spoilEntries(w.Map(n))
	}
	if now := shoot(w); !now.is(before) {
		t.Fatalf("behind Map: %s, want %s", quoted(now), quoted(before))
	}
	also := busyWorld(t)
	isCalm(t, also, calmed(t, w))
	if now, want := shoot(w), shoot(also); !now.is(want) {
		t.Errorf("%s, want %s", quoted(now), quoted(want))
	}
}

// calmed is how many rounds go by until nothing is under way.
func calmed(t *testing.T, w *world.World) int {
	t.Helper()
	n, e := w.Calm(lastTurn + 1)
	if e != api.OK {
		t.Fatal(e)
	}
	return n
}

// R3: no two answers share memory, nor any two lists of one answer: what is done to one is not seen at the other one.
func TestAnswersApart(t *testing.T) {
	w := busyWorld(t)
	for _, o := range asked() {
		one, other, want := do(t, w, o), do(t, w, o), do(t, w, o)
		spoil(one)
		if !same(other, want) {
			t.Errorf("%s: %s, want %s", quoted(o), quoted(other), quoted(want))
		}
	}
	l, want := packets(t, w), packets(t, w)
	for i := range l {
		data := l[i].Data[:cap(l[i].Data)]
		for k := range data {
			data[k] = 0xEE
		}
		if !slices.EqualFunc(l[i+1:], want[i+1:], samePackets) {
			t.Errorf("behind the %d-th one's bytes: %v, want %v", i, l[i+1:], want[i+1:])
		}
	}
}

// R3: an answer stays as it is, whatever is done in the world since.
func TestAnswersStay(t *testing.T) {
	w := busyWorld(t)
	var told, copies []api.Answer
	for _, o := range asked() {
		told, copies = append(told, do(t, w, o)), append(copies, copied(do(t, w, o)))
	}
	held := w.Map(0)
	want := slices.Clone(held)
	all(t, w, drop(0), deliver(0), put(0, "a", "new"), remove(0, "b"), put(0, "0", ""), put(1, "b", "new"))
	calm(t, w)
	for range 6 {
		all(t, w, tick(0), tick(1))
	}
	all(t, w, crash(0), start(0), put(0, "d", ""))
	for i := range told {
		if !same(told[i], copies[i]) {
			t.Errorf("%s: %s, want %s", quoted(asked()[i]), quoted(told[i]), quoted(copies[i]))
		}
	}
	if !slices.Equal(held, want) {
		t.Errorf("%s, want %s", quoted(held), quoted(want))
	}
}

// copied is an answer in memory of its own.
func copied(a api.Answer) api.Answer {
	a.Entries, a.Talks, a.Packets = slices.Clone(a.Entries), slices.Clone(a.Talks), slices.Clone(a.Packets)
	for i := range a.Packets {
		a.Packets[i].Data = slices.Clone(a.Packets[i].Data)
	}
	return a
}

// R3: Run neither changes nor keeps what is handed in, nor what lies behind its length; its answers are apart from one another.
func TestRunMemory(t *testing.T) {
	w, also := busyWorld(t), busyWorld(t)
	l := append(asked(), asked()...)
	l = append(l, put(2, "q", "v"), open(2, 1))
	spare := append(slices.Clone(l), put(0, "spare", "spare"), crash(0))
	answers, errors := w.Run(spare[:len(l)])
	if !slices.Equal(spare[:len(l)], l) || spare[len(l)] != put(0, "spare", "spare") || spare[len(l)+1] != crash(0) {
		t.Fatalf("%v", spare)
	}
	for i := range spare {
		spare[i] = crash(1)
	}
	for i, o := range l {
		if want := do(t, also, o); !same(answers[i], want) || errors[i] != api.OK {
			t.Fatalf("%s: %s, want %s", quoted(o), quoted(answers[i]), quoted(want))
		}
		spoil(answers[i])
		answers[i] = api.Answer{}
	}
	for i := range errors {
		errors[i] = api.ErrArg
	}
	if now, want := shoot(w), shoot(also); !now.is(want) {
		t.Errorf("%s, want %s", quoted(now), quoted(want))
	}
	answers, errors = answers[:cap(answers)], errors[:cap(errors)]
	clear(answers)
	clear(errors)
	runs(t, w, also, l)
}

// R3: two worlds of one list of commands, and of one Config, have nothing in common.
func TestWorldsApart(t *testing.T) {
	w, also := busyWorld(t), busyWorld(t)
	before := shoot(also)
	all(t, w, put(0, "a", "new"), remove(1, "b"), drop(0), deliver(0), tick(0), open(2, 1), double(0))
	calm(t, w)
	all(t, w, crash(1))
	if now := shoot(also); !now.is(before) {
		t.Errorf("%s, want %s", quoted(now), quoted(before))
	}
}
