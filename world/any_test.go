package world_test

import (
	"math/rand/v2"
	"testing"

	"tideline/api"
	"tideline/ghost"
	"tideline/wire"
	"tideline/world"
)

// watcher is a world, and a ghost that is told of all that is written in it, and sees what its nodes hold.
type watcher struct {
	w *world.World
	g *ghost.Ghost
}

// do does a command, and asks that no node's map moves back by it, that nothing is held that nobody wrote, and that what is refused changes nothing.
func (x *watcher) do(t *testing.T, o api.Op) {
	t.Helper()
	before := shoot(x.w)
	a, e := x.w.Do(o)
	if e == api.ErrFrame || e == api.ErrStale || e == api.ErrBusy {
		sameMapsAndTalks(t, o, before, shoot(x.w))
	}
	if e == api.OK && (o.Kind == api.OpPut || o.Kind == api.OpDelete) {
		written := api.Entry{Key: o.Key, Version: a.Version, Value: o.Value, Dead: o.Kind == api.OpDelete}
		if written.Dead {
			written.Value = ""
		}
		if e := x.g.Wrote(written); e != api.OK {
			t.Fatalf("%s: %d", quoted(written), e)
		}
	}
	for n := range x.w.Nodes() {
		if key, e := x.g.Sees(n, x.w.Map(n)); e != api.OK {
			t.Fatalf("%s: node %d, %q: %d", quoted(o), n, key, e)
		}
	}
}

// sameMapsAndTalks asks that no map and no session is another one.
func sameMapsAndTalks(t *testing.T, o api.Op, before, now shot) {
	t.Helper()
	for n := range now.nodes {
		before.nodes[n].counters, now.nodes[n].counters = api.Counters{}, api.Counters{}
		if !now.nodes[n].is(before.nodes[n]) {
			t.Fatalf("%s: node %d: %s, want %s", quoted(o), n, quoted(now.nodes[n]), quoted(before.nodes[n]))
		}
	}
}

// P20.6, P20.7, W3: worlds in which all sorts of commands are done, without bytes from outside: nothing moves back, nothing is forged.
func TestUpward(t *testing.T) {
	for seed := range uint64(12) {
		rnd := rand.New(rand.NewPCG(seed, 206))
		nodes := 2 + int(seed)%7
		x := &watcher{made(t, nodes, sampleConfigs()[int(seed)%len(sampleConfigs())]), ghost.New()}
		keys := [][]string{oddKeys(), numbered(0, 60), numbered(0, most+10)}[seed%3]
		for range 1200 {
			if o := someOp(rnd, nodes, keys); o.Kind != api.OpRaw {
				x.do(t, o)
			}
		}
	}
}

// P20.6, W3, W4: the same, where any bytes come: nothing moves back.
func TestUpwardWithBytes(t *testing.T) {
	came := map[api.Errno]int{}
	for seed := range uint64(12) {
		rnd := rand.New(rand.NewPCG(seed, 207))
		nodes := 2 + int(seed)%7
		w := made(t, nodes, sampleConfigs()[int(seed)%len(sampleConfigs())])
		s := sight{}
		for range 1500 {
			o := someOp(rnd, nodes, oddKeys())
			if rnd.IntN(4) == 0 {
				o = someRaw(t, rnd, w)
			}
			before := shoot(w)
			_, e := w.Do(o)
			if o.Kind == api.OpRaw {
				came[e]++
			}
			if e == api.ErrFrame || e == api.ErrStale || e == api.ErrBusy {
				sameMapsAndTalks(t, o, before, shoot(w))
			}
			s.movesUp(t, o, w)
		}
	}
	for _, e := range []api.Errno{api.OK, api.ErrFrame, api.ErrStale, api.ErrDown} {
		if came[e] < 20 {
			t.Errorf("%v: the test tells little", came)
		}
	}
}

// sight is what each node held last, by its keys.
type sight map[int]map[string]api.Version

// movesUp asks that each node holds under each key what it held, or something newer.
func (s sight) movesUp(t *testing.T, o api.Op, w *world.World) {
	t.Helper()
	for n := range w.Nodes() {
		now := map[string]api.Version{}
		for _, e := range w.Map(n) {
			now[e.Key] = e.Version
		}
		for key, was := range s[n] {
			is := now[key]
			if is.Counter < was.Counter || is.Counter == was.Counter && is.Node < was.Node {
				t.Fatalf("%s: node %d, %q: %v behind %v", quoted(o), n, key, is, was)
			}
		}
		s[n] = now
	}
}

// someRaw has bytes come that are no frame, or a frame that was under way, changed or not, or one that answers such, with entries that nobody wrote.
func someRaw(t *testing.T, rnd *rand.Rand, w *world.World) api.Op {
	t.Helper()
	to := rnd.IntN(w.Nodes())
	l := packets(t, w)
	if len(l) == 0 || rnd.IntN(4) == 0 {
		f := first(name((to+1+rnd.IntN(mostNodes-1))%mostNodes, 1+rnd.IntN(2), 1+rnd.IntN(9)), to, other())
		return raw(to, bytesOf(t, f))
	}
	p := l[rnd.IntN(len(l))]
	data := p.Data
	switch rnd.IntN(4) {
	case 0:
		data[rnd.IntN(len(data))] = byte(rnd.IntN(256))
		return raw(p.To, string(data))
	case 1:
		return raw(p.To, string(data[:rnd.IntN(len(data))]))
	case 2:
		return raw(to, string(data))
	}
	f, e := wire.Decode(data)
	if e != api.OK {
		t.Fatal(e)
	}
	if f.Turn == lastTurn {
		return raw(p.From, string(data))
	}
	forged := entry(oddKeys()[rnd.IntN(len(oddKeys()))], 1+rnd.IntN(30), rnd.IntN(mostNodes), "forged")
	return raw(p.From, bytesOf(t, back(f, reply(forged))))
}

// P20.1 to P20.5, R5: any commands, held against the second reading.
func TestAnyCommands(t *testing.T) {
	for seed := range uint64(14) {
		rnd := rand.New(rand.NewPCG(seed, 205))
		nodes := 2 + int(seed)%7
		p := newPair(t, nodes, sampleConfigs()[int(seed)%len(sampleConfigs())])
		keys := [][]string{oddKeys(), numbered(0, 60), numbered(0, most+10)}[seed%3]
		for range 1000 {
			switch o := someOp(rnd, nodes, keys); rnd.IntN(30) {
			case 0:
				p.steps(t, someRaw(t, rnd, p.w))
			case 1:
				p.calm(t, rnd.IntN(5))
			default:
				p.steps(t, o)
			}
		}
		p.calm(t, lastTurn+1)
	}
}

// P20.9, R5: a world that is made anew, and given the same commands, answers the same, whatever another world is given meanwhile.
func TestSameAgain(t *testing.T) {
	for seed := range uint64(6) {
		rnd := rand.New(rand.NewPCG(seed, 209))
		nodes := 2 + int(seed)%7
		c := sampleConfigs()[int(seed)%len(sampleConfigs())]
		w := made(t, nodes, c)
		var l []api.Op
		var answers []api.Answer
		var errors []api.Errno
		for range 800 {
			o := someOp(rnd, nodes, oddKeys())
			if rnd.IntN(10) == 0 {
				o = someRaw(t, rnd, w)
			}
			a, e := w.Do(o)
			l, answers, errors = append(l, o), append(answers, a), append(errors, e)
		}
		again, other := made(t, nodes, c), made(t, mostNodes, plainConfig())
		for i, o := range l {
			other.Do(someOp(rnd, mostNodes, oddKeys()))
			if a, e := again.Do(o); !same(a, answers[i]) || e != errors[i] {
				t.Fatalf("%d, %s: %s, %d, want %s, %d", i, quoted(o), quoted(a), e, quoted(answers[i]), errors[i])
			}
		}
		if now, want := shoot(again), shoot(w); !now.is(want) {
			t.Fatalf("%s, want %s", quoted(now), quoted(want))
		}
	}
}
