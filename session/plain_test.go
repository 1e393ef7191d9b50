package session_test

import (
	"fmt"
	"slices"
	"testing"

	"tideline/api"
	"tideline/frame"
	"tideline/recon"
	"tideline/session"
	"tideline/store"
)

// A second reading of the promises: a desk is what the chapter says that it has, gone through from end to end; all names that it has no more are kept, and the ticks at which frames are due stand with the sessions.

type plainTalk struct {
	x     *recon.Talk
	tries int
	due   int // 0: the talk is over
}

type plainDesk struct {
	s                 *store.Store
	c                 api.Config
	life, now, opened int
	talks             []*plainTalk
	gone              []api.Name
}

func (d *plainDesk) place(n api.Name) int {
	return slices.IndexFunc(d.talks, func(x *plainTalk) bool { return x.x.Session() == n })
}

func (d *plainDesk) lose(i int) {
	d.gone = append(d.gone, d.talks[i].x.Session())
	d.talks = append(slices.Clone(d.talks[:i]), d.talks[i+1:]...)
}

// makeRoom says whether there is room; if there is, it is made.
func (d *plainDesk) makeRoom() bool {
	if len(d.talks) < mostTalks {
		return true
	}
	for i, x := range d.talks {
		if x.x.Closed() {
			d.lose(i)
			return true
		}
	}
	return false
}

func (d *plainDesk) have(x *recon.Talk) {
	one := &plainTalk{x: x}
	if !x.Over() {
		one.due = d.now + d.c.Wait
	}
	d.talks = append(d.talks, one)
}

func (d *plainDesk) open(peer int) (api.Frame, api.Errno) {
	if peer < 0 || peer > 7 || peer == d.s.Node() {
		return api.Frame{}, api.ErrArg
	}
	if d.opened >= mostLives {
		return api.Frame{}, api.ErrWorn
	}
	if !d.makeRoom() {
		return api.Frame{}, api.ErrBusy
	}
	d.opened++
	x, f, e := recon.Start(d.s, d.c, peer, d.life, d.opened)
	if e != api.OK {
		return api.Frame{}, e
	}
	d.have(x)
	return f, api.OK
}

func (d *plainDesk) hear(f api.Frame) (api.Frame, bool, api.Heard, api.Errno) {
	none := func(e api.Errno) (api.Frame, bool, api.Heard, api.Errno) {
		return api.Frame{}, false, api.Heard{}, e
	}
	if e := frame.Check(f); e != api.OK {
		return none(e)
	}
	if f.To != d.s.Node() {
		return none(api.ErrStale)
	}
	if i := d.place(f.Session); i >= 0 {
		return d.handOn(i, f)
	}
	if f.Turn != 0 {
		return none(api.ErrStale)
	}
	for _, n := range d.gone {
		older := n.Life < f.Session.Life || n.Life == f.Session.Life && n.Number < f.Session.Number
		if n.Opener == f.From && !older {
			return none(api.ErrStale)
		}
	}
	if !d.makeRoom() {
		return none(api.ErrBusy)
	}
	x, answer, h, e := recon.Join(d.s, d.c, f)
	if e != api.OK {
		return none(e)
	}
	d.have(x)
	return answer, true, h, api.OK
}

func (d *plainDesk) handOn(i int, f api.Frame) (api.Frame, bool, api.Heard, api.Errno) {
	one := d.talks[i]
	awaited := !one.x.Over() && f.Turn-one.x.Last().Turn == 1
	answer, is, h, e := one.x.Hear(f)
	if e == api.OK && awaited {
		one.tries, one.due = 0, 0
		if !one.x.Over() {
			one.due = d.now + d.c.Wait
		}
		if one.x.Over() && !one.x.Closed() {
			d.lose(i)
		}
	}
	return answer, is, h, e
}

func (d *plainDesk) tick() ([]api.Frame, []api.Name) {
	if d.now == lastTick {
		return nil, nil
	}
	d.now++
	var due []api.Name
	for _, one := range d.talks {
		if one.due == d.now {
			due = append(due, one.x.Session())
		}
	}
	slices.SortFunc(due, frame.CompareNames)
	var again []api.Frame
	var lost []api.Name
	for _, n := range due {
		one := d.talks[d.place(n)]
		if one.tries < d.c.Tries {
			one.tries++
			one.due += d.c.Wait
			again = append(again, one.x.Last())
		} else {
			d.lose(d.place(n))
			lost = append(lost, n)
		}
	}
	return again, lost
}

func (d *plainDesk) told() []api.Talk {
	var l []api.Talk
	for _, one := range d.talks {
		l = append(l, api.Talk{Session: one.x.Session(), Peer: one.x.Peer(), Turn: one.x.Last().Turn, Tries: one.tries, Over: one.x.Over()})
	}
	return l
}

// pair is a desk with its store, and the second reading of it, with a store of its own.
type pair struct {
	d    *session.Desk
	s    *store.Store
	also *plainDesk
}

func newPair(t *testing.T, node int, l []api.Entry, c api.Config, life int) pair {
	t.Helper()
	s := holding(t, node, l)
	d, e := session.New(s, c, life)
	if e != api.OK {
		t.Fatalf("New(%v, %d): %d", c, life, e)
	}
	p := pair{d, s, &plainDesk{s: holding(t, node, l), c: c, life: life}}
	p.isOne(t, "New")
	return p
}

// skip has both be at that tick.
func (p pair) skip(now int) {
	p.d.Skip(now)
	p.also.now = now
}

func (p pair) isOne(t *testing.T, what string) {
	t.Helper()
	isTold(t, what, p.d, p.also.now, p.also.told()...)
	isAs(t, what, p.s, p.also.s.Node(), p.also.s.Clock(), heldBy(t, p.also.s))
}

func (p pair) open(t *testing.T, peer int) (api.Frame, api.Errno) {
	t.Helper()
	joins := p.s.Joins()
	f, e := p.d.Open(peer)
	want, wantError := p.also.open(peer)
	if !frame.Same(f, want) || e != wantError {
		t.Fatalf("%+v: Open(%d): %s, %d, want %s, %d", p.d.Talks(), peer, brief(f), e, brief(want), wantError)
	}
	p.isOne(t, "Open")
	if e != api.OK && p.s.Joins() != joins {
		t.Fatalf("Open(%d): %d, and %d joins, there were %d", peer, e, p.s.Joins(), joins)
	}
	return f, e
}

func (p pair) hear(t *testing.T, f api.Frame) (api.Frame, bool, api.Heard, api.Errno) {
	t.Helper()
	was, joins := p.d.Talks(), p.s.Joins()
	answer, is, h, e := p.d.Hear(f)
	want, wantIs, wantHeard, wantError := p.also.hear(f)
	if !frame.Same(answer, want) || is != wantIs || h != wantHeard || e != wantError {
		t.Fatalf("%+v: Hear(%s): %s, %v, %v, %d, want %s, %v, %v, %d", was, brief(f), brief(answer), is, h, e, brief(want), wantIs, wantHeard, wantError)
	}
	p.isOne(t, fmt.Sprintf("Hear of turn %d of %v", f.Turn, f.Session))
	if e != api.OK && p.s.Joins() != joins {
		t.Fatalf("Hear(%s): %d, and %d joins, there were %d", brief(f), e, p.s.Joins(), joins)
	}
	return answer, is, h, e
}

func (p pair) tick(t *testing.T) ([]api.Frame, []api.Name) {
	t.Helper()
	l, lost := p.d.Tick()
	want, wantLost := p.also.tick()
	if !slices.EqualFunc(l, want, frame.Same) || !slices.Equal(lost, wantLost) {
		t.Fatalf("tick %d: %s, %v, want %s, %v", p.d.Now(), briefly(l), lost, briefly(want), wantLost)
	}
	p.isOne(t, "Tick")
	return l, lost
}

// wait lets n ticks go by at both.
func (p pair) wait(t *testing.T, n int) {
	t.Helper()
	for range n {
		p.tick(t)
	}
}

// settled asks of both what a desk does not tell of itself: when its frames are due, and which names it refuses.
func (p pair) settled(t *testing.T) {
	t.Helper()
	p.wait(t, p.also.c.Wait*(p.also.c.Tries+1))
	for _, n := range p.also.gone {
		if n.Opener == p.s.Node() {
			continue
		}
		for _, more := range []api.Name{name(0, 0, -1), {}, name(0, 0, 1), name(0, -1, 1), name(0, 1, -1)} {
			n := name(n.Opener, n.Life+more.Life, n.Number+more.Number)
			// Such as would be begun are left for the last.
			if !slices.ContainsFunc(p.also.gone, func(m api.Name) bool { return m.Opener == n.Opener && frame.CompareNames(n, m) <= 0 }) {
				continue
			}
			p.hear(t, first(n, p.s.Node(), other(whole())))
		}
	}
	for opener := range 8 {
		newest := name(opener, 1, 0)
		for _, n := range p.also.gone {
			if n.Opener == opener && frame.CompareNames(n, newest) > 0 {
				newest = n
			}
		}
		if opener != p.s.Node() {
			newest.Number++
			p.hear(t, first(newest, p.s.Node(), other(whole())))
		}
	}
	p.wait(t, p.also.c.Wait*(p.also.c.Tries+1))
}
