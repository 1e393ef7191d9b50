package world_test

import (
	"slices"
	"testing"

	"tideline/api"
	"tideline/node"
	"tideline/world"
)

// A second reading of the promises: nodes of layer 17, and a list of all frames that ever went out, none of which is ever taken from it; what the table says of each kind stands in a map of functions.

type plainFrame struct {
	api.Packet
	gone bool
}

type plainWorld struct {
	nodes []*node.Node
	sent  []plainFrame
	ops   []api.Op // all that was done, but by calm
}

func plainNew(nodes int, c api.Config) *plainWorld {
	p := &plainWorld{}
	for id := range nodes {
		n, e := node.New(id, c)
		if e != api.OK {
			panic(e)
		}
		p.nodes = append(p.nodes, n)
	}
	return p
}

// places are where the frames stand that are in the bag.
func (p *plainWorld) places() []int {
	var l []int
	for i, f := range p.sent {
		if !f.gone {
			l = append(l, i)
		}
	}
	return l
}

func (p *plainWorld) packets() []api.Packet {
	var l []api.Packet
	for _, i := range p.places() {
		l = append(l, p.sent[i].Packet)
	}
	return l
}

func (p *plainWorld) send(from, to int, data []byte) {
	if to < len(p.nodes) && len(p.places()) < room {
		p.sent = append(p.sent, plainFrame{Packet: api.Packet{Num: len(p.sent) + 1, From: from, To: to, Data: data}})
	}
}

// goesOut sends what a node says. A frame's second number is its To: one byte, as no node has a number above 7.
func (p *plainWorld) goesOut(from int, data []byte) {
	if len(data) > 0 {
		p.send(from, int(data[1]), data)
	}
}

func (p *plainWorld) deliver(to int, data []byte) (api.Answer, api.Errno) {
	answer, heard, e := p.nodes[to].Deliver(data)
	p.goesOut(to, answer)
	return api.Answer{Heard: heard}, e
}

// frame is the one that has that place in the bag.
func (p *plainWorld) frame(i int, do func(f *plainFrame) (api.Answer, api.Errno)) (api.Answer, api.Errno) {
	for n, place := range p.places() {
		if n == i {
			return do(&p.sent[place])
		}
	}
	return api.Answer{}, api.ErrNone
}

type does func(p *plainWorld, o api.Op) (api.Answer, api.Errno)

// atNode is what the table says of the kinds that name a Node.
func atNode() map[int]does {
	return map[int]does{
		1: func(p *plainWorld, o api.Op) (api.Answer, api.Errno) {
			v, e := p.nodes[o.Node].Put(o.Key, o.Value)
			return api.Answer{Version: v}, e
		},
		2: func(p *plainWorld, o api.Op) (api.Answer, api.Errno) {
			v, e := p.nodes[o.Node].Delete(o.Key)
			return api.Answer{Version: v}, e
		},
		3: func(p *plainWorld, o api.Op) (api.Answer, api.Errno) {
			x, _, e := p.nodes[o.Node].Get(o.Key)
			// The zero Entry is none.
			if x == (api.Entry{}) {
				return api.Answer{}, e
			}
			return api.Answer{Entries: list(x)}, e
		},
		4: func(p *plainWorld, o api.Op) (api.Answer, api.Errno) {
			var l []api.Entry
			living, e := p.nodes[o.Node].Scan(o.Range)
			if e == api.OK {
				l = slices.Collect(living)
			}
			return api.Answer{Entries: l}, e
		},
		5: func(p *plainWorld, o api.Op) (api.Answer, api.Errno) {
			sum, e := p.nodes[o.Node].Fold(o.Range)
			return api.Answer{Tally: sum}, e
		},
		6: func(p *plainWorld, o api.Op) (api.Answer, api.Errno) {
			s, data, e := p.nodes[o.Node].Open(o.Peer)
			p.goesOut(o.Node, data)
			return api.Answer{Session: s}, e
		},
		10: func(p *plainWorld, o api.Op) (api.Answer, api.Errno) { return p.deliver(o.Node, []byte(o.Value)) },
		11: func(p *plainWorld, o api.Op) (api.Answer, api.Errno) {
			l, e := p.nodes[o.Node].Tick()
			for _, data := range l {
				p.goesOut(o.Node, data)
			}
			return api.Answer{}, e
		},
		12: func(p *plainWorld, o api.Op) (api.Answer, api.Errno) { return api.Answer{}, p.nodes[o.Node].Crash() },
		13: func(p *plainWorld, o api.Op) (api.Answer, api.Errno) { return api.Answer{}, p.nodes[o.Node].Start() },
		14: func(p *plainWorld, o api.Op) (api.Answer, api.Errno) {
			return api.Answer{Entries: p.nodes[o.Node].Map()}, api.OK
		},
		15: func(p *plainWorld, o api.Op) (api.Answer, api.Errno) {
			return api.Answer{Talks: p.nodes[o.Node].Talks()}, api.OK
		},
		16: func(p *plainWorld, o api.Op) (api.Answer, api.Errno) {
			return api.Answer{Counters: p.nodes[o.Node].Counters()}, api.OK
		},
	}
}

// atBag is what it says of the others.
func atBag() map[int]does {
	return map[int]does{
		7: func(p *plainWorld, o api.Op) (api.Answer, api.Errno) {
			return p.frame(o.N, func(f *plainFrame) (api.Answer, api.Errno) {
				f.gone = true
				return p.deliver(f.To, f.Data)
			})
		},
		8: func(p *plainWorld, o api.Op) (api.Answer, api.Errno) {
			return p.frame(o.N, func(f *plainFrame) (api.Answer, api.Errno) {
				f.gone = true
				return api.Answer{}, api.OK
			})
		},
		9: func(p *plainWorld, o api.Op) (api.Answer, api.Errno) {
			return p.frame(o.N, func(f *plainFrame) (api.Answer, api.Errno) {
				p.send(f.From, f.To, f.Data)
				return api.Answer{}, api.OK
			})
		},
		17: func(p *plainWorld, o api.Op) (api.Answer, api.Errno) {
			return api.Answer{Packets: p.packets()}, api.OK
		},
	}
}

func (p *plainWorld) do(o api.Op) (api.Answer, api.Errno) {
	if call, is := atBag()[o.Kind]; is {
		return call(p, o)
	}
	call, is := atNode()[o.Kind]
	if !is {
		return api.Answer{}, api.ErrArg
	}
	if isOutside(o.Node, 0, len(p.nodes)-1) || o.Kind == 6 && isOutside(o.Peer, 0, len(p.nodes)-1) {
		return api.Answer{}, api.ErrNone
	}
	return call(p, o)
}

func (p *plainWorld) calm(most int) int {
	for gone := range most {
		frames := len(p.places())
		if frames == 0 {
			return gone
		}
		for range frames {
			p.do(deliver(0))
		}
	}
	return most
}

func (p *plainWorld) shot() shot {
	s := shot{under: p.packets()}
	for _, n := range p.nodes {
		s.nodes = append(s.nodes, seen{n.Up(), n.Map(), n.Talks(), n.Counters()})
	}
	return s
}

// pair is a world, and the second reading of it.
type pair struct {
	w    *world.World
	also *plainWorld
}

func newPair(t *testing.T, nodes int, c api.Config) pair {
	t.Helper()
	p := pair{made(t, nodes, c), plainNew(nodes, c)}
	p.isOne(t, "New")
	return p
}

func (p pair) isOne(t *testing.T, what string) {
	t.Helper()
	if now, want := shoot(p.w), p.also.shot(); !now.is(want) {
		t.Fatalf("%s: %s, want %s", what, quoted(now), quoted(want))
	}
}

// do has both do a command, which both must answer alike.
func (p pair) do(t *testing.T, o api.Op) (api.Answer, api.Errno) {
	t.Helper()
	a, e := p.w.Do(o)
	want, wantError := p.also.do(o)
	p.also.ops = append(p.also.ops, o)
	if !same(a, want) || e != wantError {
		t.Fatalf("Do(%s): %s, %d, want %s, %d", quoted(o), quoted(a), e, quoted(want), wantError)
	}
	if e != api.OK && !saysNothing(a) {
		t.Fatalf("Do(%s): %s beside %d", quoted(o), quoted(a), e)
	}
	return a, e
}

// steps has both do commands, one behind the other, and holds all that both tell against one another behind each.
func (p pair) steps(t *testing.T, l ...api.Op) {
	t.Helper()
	for _, o := range l {
		p.do(t, o)
		p.isOne(t, quoted(o))
	}
}

// done are all commands that both did.
func (p pair) done() []api.Op { return slices.Clone(p.also.ops) }

func (p pair) calm(t *testing.T, most int) {
	t.Helper()
	n, e := p.w.Calm(most)
	if want := p.also.calm(most); n != want || e != api.OK {
		t.Fatalf("Calm(%d): %d, %d, want %d", most, n, e, want)
	}
	p.isOne(t, "Calm")
}
