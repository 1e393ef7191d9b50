package node_test

import (
	"fmt"
	"slices"
	"testing"

	"tideline/api"
	"tideline/frame"
	"tideline/node"
	"tideline/recon"
	"tideline/store"
	"tideline/wire"
)

// A second reading of the promises: a node whose store stays as it is through all lives, whose sessions stand in a list of talks of layer 14, with the tick at which each is due, and which keeps all names that it has no more.

type plainTalk struct {
	x     *recon.Talk
	tries int
	due   int // 0: the talk is over
}

type plainNode struct {
	s         *store.Store
	c         api.Config
	up        bool
	life, now int
	opened    int // in this life
	had       int // sessions, in all lives
	talks     []*plainTalk
	gone      []api.Name
	k         api.Counters
}

func (p *plainNode) place(n api.Name) int {
	return slices.IndexFunc(p.talks, func(x *plainTalk) bool { return x.x.Session() == n })
}

func (p *plainNode) lose(i int) {
	p.gone = append(p.gone, p.talks[i].x.Session())
	p.talks = append(slices.Clone(p.talks[:i]), p.talks[i+1:]...)
}

// makeRoom says whether there is room; if there is, it is made.
func (p *plainNode) makeRoom() bool {
	if len(p.talks) < mostTalks {
		return true
	}
	for i, x := range p.talks {
		if x.x.Closed() {
			p.lose(i)
			return true
		}
	}
	return false
}

func (p *plainNode) have(x *recon.Talk) {
	p.had++
	p.talks = append(p.talks, &plainTalk{x: x})
	p.goesOn(len(p.talks) - 1)
}

// goesOn is what becomes of a session that was begun now, or has heard what it awaited.
func (p *plainNode) goesOn(i int) {
	one := p.talks[i]
	one.tries, one.due = 0, 0
	switch {
	case one.x.Closed():
		p.k.Closed++
	case one.x.Over():
		p.k.Lost++
		p.lose(i)
	default:
		one.due = p.now + p.c.Wait
	}
}

func (p *plainNode) out(f api.Frame, again bool) []byte {
	data, e := wire.Encode(f)
	if e != api.OK {
		panic(e)
	}
	p.k.Sent++
	p.k.Moved += frame.Entries(f)
	if again {
		p.k.Again++
	}
	return data
}

func (p *plainNode) open(peer int) (api.Name, []byte, api.Errno) {
	switch {
	case !p.up:
		return api.Name{}, nil, api.ErrDown
	case peer < 0 || peer > 7 || peer == p.s.Node():
		return api.Name{}, nil, api.ErrArg
	case p.opened >= mostLives:
		return api.Name{}, nil, api.ErrWorn
	case !p.makeRoom():
		return api.Name{}, nil, api.ErrBusy
	}
	p.opened++
	x, f, e := recon.Start(p.s, p.c, peer, p.life, p.opened)
	if e != api.OK {
		panic(e)
	}
	p.have(x)
	return f.Session, p.out(f, false), api.OK
}

func (p *plainNode) deliver(b []byte) ([]byte, api.Heard, api.Errno) {
	if !p.up {
		return nil, api.Heard{}, api.ErrDown
	}
	f, e := wire.Decode(b)
	if e != api.OK {
		p.k.Bad++
		return nil, api.Heard{}, e
	}
	data, h, e := p.hear(f)
	if e == api.ErrStale {
		p.k.Stale++
	}
	if e == api.OK {
		p.k.Heard++
		p.k.Taken += h.Taken
		p.k.Full += h.Refused
	}
	return data, h, e
}

// isBegun says whether a frame is such as begins a session, if there is room.
func (p *plainNode) isBegun(f api.Frame) bool {
	for _, n := range p.gone {
		older := n.Life < f.Session.Life || n.Life == f.Session.Life && n.Number < f.Session.Number
		if n.Opener == f.From && !older {
			return false
		}
	}
	return f.Turn == 0
}

func (p *plainNode) hear(f api.Frame) ([]byte, api.Heard, api.Errno) {
	if f.To != p.s.Node() {
		return nil, api.Heard{}, api.ErrStale
	}
	if i := p.place(f.Session); i >= 0 {
		return p.handOn(i, f)
	}
	if !p.isBegun(f) {
		return nil, api.Heard{}, api.ErrStale
	}
	if !p.makeRoom() {
		return nil, api.Heard{}, api.ErrBusy
	}
	x, answer, h, e := recon.Join(p.s, p.c, f)
	if e != api.OK {
		panic(e)
	}
	p.have(x)
	return p.out(answer, false), h, api.OK
}

func (p *plainNode) handOn(i int, f api.Frame) ([]byte, api.Heard, api.Errno) {
	x := p.talks[i].x
	awaited := !x.Over() && f.Turn-x.Last().Turn == 1
	answer, is, h, e := x.Hear(f)
	if e != api.OK {
		return nil, api.Heard{}, e
	}
	if awaited {
		p.goesOn(i)
	}
	if !is {
		return nil, h, api.OK
	}
	return p.out(answer, !awaited), h, api.OK
}

func (p *plainNode) tick() ([][]byte, api.Errno) {
	if !p.up {
		return nil, api.ErrDown
	}
	p.now++
	var due []api.Name
	for _, one := range p.talks {
		if one.due == p.now {
			due = append(due, one.x.Session())
		}
	}
	slices.SortFunc(due, frame.CompareNames)
	var again [][]byte
	for _, n := range due {
		one := p.talks[p.place(n)]
		if one.tries < p.c.Tries {
			one.tries++
			one.due += p.c.Wait
			again = append(again, p.out(one.x.Last(), true))
		} else {
			p.k.Lost++
			p.lose(p.place(n))
		}
	}
	return again, api.OK
}

func (p *plainNode) crash() api.Errno {
	if !p.up {
		return api.ErrDown
	}
	p.up, p.talks, p.gone, p.now, p.opened = false, nil, nil, 0, 0
	return api.OK
}

func (p *plainNode) start() api.Errno {
	switch {
	case p.up:
		return api.ErrUp
	case p.life == mostLives:
		return api.ErrWorn
	}
	p.up = true
	p.life++
	return api.OK
}

func (p *plainNode) held() []api.Entry {
	all, e := p.s.All(whole())
	if e != api.OK {
		panic(e)
	}
	return slices.Collect(all)
}

func (p *plainNode) told() []api.Talk {
	var l []api.Talk
	for _, one := range p.talks {
		l = append(l, api.Talk{Session: one.x.Session(), Peer: one.x.Peer(), Turn: one.x.Last().Turn, Tries: one.tries, Over: one.x.Over()})
	}
	return l
}

// pair is a node, and the second reading of it.
type pair struct {
	n    *node.Node
	also *plainNode
}

func newPair(t *testing.T, id int, c api.Config) pair {
	t.Helper()
	s, e := store.New(id)
	if e != api.OK {
		t.Fatal(e)
	}
	p := pair{made(t, id, c), &plainNode{s: s, c: c, up: true, life: 1}}
	p.isOne(t, "New")
	return p
}

// fedPair is such a pair that took these entries in its first life, and is in its second one.
func fedPair(t *testing.T, id int, c api.Config, l []api.Entry) pair {
	t.Helper()
	p := newPair(t, id, c)
	if len(l) > 0 {
		data, e := p.open(t, (id+1)%8)
		if e != api.OK {
			t.Fatal(e)
		}
		p.deliver(t, bytesOf(t, back(frameOf(t, data), reply(whole(), l...))))
	}
	p.crash(t)
	p.start(t)
	return p
}

func (p pair) isOne(t *testing.T, what string) {
	t.Helper()
	want := shot{p.also.up, p.also.life, p.also.held(), p.also.told(), p.also.k, p.n.Joins()}
	if now := shoot(p.n); !now.is(want) {
		t.Fatalf("%s: %s, want %s", what, quoted(now), quoted(want))
	}
	if k := p.n.Counters(); k.Closed+k.Lost > p.also.had {
		t.Fatalf("%s: %+v, of %d sessions", what, k, p.also.had)
	}
}

func (p pair) open(t *testing.T, peer int) ([]byte, api.Errno) {
	t.Helper()
	s, data, e := p.n.Open(peer)
	want, wantData, wantError := p.also.open(peer)
	if s != want || string(data) != string(wantData) || e != wantError {
		t.Fatalf("Open(%d): %v, %x, %d, want %v, %x, %d", peer, s, data, e, want, wantData, wantError)
	}
	p.isOne(t, "Open")
	return data, e
}

func (p pair) deliver(t *testing.T, b []byte) ([]byte, api.Heard, api.Errno) {
	t.Helper()
	data, h, e := p.n.Deliver(slices.Clone(b))
	want, wantHeard, wantError := p.also.deliver(b)
	if string(data) != string(want) || h != wantHeard || e != wantError {
		t.Fatalf("Deliver(%x): %x, %v, %d, want %x, %v, %d", b, data, h, e, want, wantHeard, wantError)
	}
	p.isOne(t, fmt.Sprintf("Deliver(%x)", b[:min(len(b), 30)]))
	return data, h, e
}

func (p pair) tick(t *testing.T) [][]byte {
	t.Helper()
	l, e := p.n.Tick()
	want, wantError := p.also.tick()
	if !slices.EqualFunc(l, want, func(a, b []byte) bool { return string(a) == string(b) }) || e != wantError {
		t.Fatalf("Tick: %x, %d, want %x, %d", l, e, want, wantError)
	}
	p.isOne(t, "Tick")
	return l
}

func (p pair) crash(t *testing.T) {
	t.Helper()
	if e, want := p.n.Crash(), p.also.crash(); e != want {
		t.Fatalf("Crash: %d, want %d", e, want)
	}
	p.isOne(t, "Crash")
}

func (p pair) start(t *testing.T) {
	t.Helper()
	if e, want := p.n.Start(), p.also.start(); e != want {
		t.Fatalf("Start: %d, want %d", e, want)
	}
	p.isOne(t, "Start")
}

// put writes at both; where the node is down nothing is written.
func (p pair) put(t *testing.T, key, value string) (api.Version, api.Errno) {
	t.Helper()
	v, e := p.n.Put(key, value)
	want, wantError := api.Version{}, api.ErrDown
	if p.also.up {
		want, wantError = p.also.s.Put(key, value)
	}
	if v != want || e != wantError {
		t.Fatalf("Put(%q, %q): %v, %d, want %v, %d", key, value, v, e, want, wantError)
	}
	p.isOne(t, "Put")
	return v, e
}

func (p pair) remove(t *testing.T, key string) (api.Version, api.Errno) {
	t.Helper()
	v, e := p.n.Delete(key)
	want, wantError := api.Version{}, api.ErrDown
	if p.also.up {
		want, wantError = p.also.s.Delete(key)
	}
	if v != want || e != wantError {
		t.Fatalf("Delete(%q): %v, %d, want %v, %d", key, v, e, want, wantError)
	}
	p.isOne(t, "Delete")
	return v, e
}

// reads asks both for what they hold under a key, and in a range.
func (p pair) reads(t *testing.T, key string, r api.Range) {
	t.Helper()
	var want api.Entry
	var wantFound bool
	var wantTally api.Tally
	var wantLiving []api.Entry
	wantError, wantRange := api.ErrDown, api.ErrDown
	if p.also.up {
		want, wantFound, wantError = p.also.s.Get(key)
		wantTally, wantRange = p.also.s.Fold(r)
		if living, e := p.also.s.Scan(r); e == api.OK {
			wantLiving = slices.Collect(living)
		}
	}
	if x, found, e := p.n.Get(key); x != want || found != wantFound || e != wantError {
		t.Fatalf("Get(%q): %v, %v, %d, want %v, %v, %d", key, x, found, e, want, wantFound, wantError)
	}
	if sum, e := p.n.Fold(r); sum != wantTally || e != wantRange {
		t.Fatalf("Fold(%s): %v, %d, want %v, %d", quoted(r), sum, e, wantTally, wantRange)
	}
	living, e := p.n.Scan(r)
	if e != wantRange || (living == nil) != (e != api.OK) {
		t.Fatalf("Scan(%s): %v, %d, want %d", quoted(r), living != nil, e, wantRange)
	}
	if e == api.OK {
		if l := slices.Collect(living); !slices.Equal(l, wantLiving) {
			t.Fatalf("Scan(%s): %s, want %s", quoted(r), quoted(l), quoted(wantLiving))
		}
	}
	p.isOne(t, "Get, Fold and Scan")
}

// settled asks of both what a node does not tell of itself: when its frames are due, which names it refuses, the next number, and its clock.
func (p pair) settled(t *testing.T) {
	t.Helper()
	if !p.also.up {
		p.start(t)
	}
	id := p.also.s.Node()
	for range p.also.c.Wait * (p.also.c.Tries + 1) {
		p.tick(t)
	}
	newest := [8]api.Name{}
	for _, n := range p.also.gone {
		if newest[n.Opener].Life == 0 || frame.CompareNames(n, newest[n.Opener]) > 0 {
			newest[n.Opener] = n
		}
	}
	for opener, n := range newest {
		if opener == id {
			continue
		}
		if n.Life > 0 {
			p.deliver(t, bytesOf(t, first(n, id, other(whole()))))
		}
		if n = name(opener, max(n.Life, 1), n.Number+1); n.Number <= mostLives {
			p.deliver(t, bytesOf(t, first(n, id, other(whole()))))
		}
	}
	p.open(t, (id+1)%8)
	p.put(t, p.someKey(), "last")
	for range p.also.c.Wait * (p.also.c.Tries + 1) {
		p.tick(t)
	}
}

// someKey is one that is held, or may be.
func (p pair) someKey() string {
	if l := p.also.held(); len(l) > 0 {
		return l[0].Key
	}
	return "k"
}
