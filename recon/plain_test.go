package recon_test

import (
	"slices"
	"strings"
	"testing"

	"tideline/api"
	"tideline/frame"
	"tideline/mix"
	"tideline/recon"
	"tideline/store"
)

// A second reading of the promises: a side is a plain list of entries and a clock, gone through from end to end; a talk is what the chapter says that it has.

type plain struct {
	node, clock int
	held        []api.Entry
}

func plainOf(node int, l []api.Entry) *plain { return &plain{node, clockOf(l), slices.Clone(l)} }

func has(r api.Range, key string) bool { return key >= r.Lo && (r.Open || key < r.Hi) }

func (m *plain) in(r api.Range) []api.Entry {
	var l []api.Entry
	for _, e := range m.held {
		if has(r, e.Key) {
			l = append(l, e)
		}
	}
	return l
}

func plainTally(l []api.Entry) api.Tally {
	t := api.Tally{Count: len(l)}
	for _, e := range l {
		sum := mix.Of(e.Key, e.Version)
		t.Sum[0] += sum[0]
		t.Sum[1] += sum[1]
	}
	return t
}

func (m *plain) print(r api.Range) api.Part { return print(r, plainTally(m.in(r))) }

// split goes by the words of P7.1: of n things part j begins at the whole part of j * n / parts.
func (m *plain) split(r api.Range, parts int) []api.Range {
	keys := m.in(r)
	var l []api.Range
	for j := range parts {
		piece := r
		if j > 0 {
			piece.Lo = keys[j*len(keys)/parts].Key
			l[j-1].Hi, l[j-1].Open = piece.Lo, false
		}
		l = append(l, piece)
	}
	return l
}

func (m *plain) compare(c api.Config, p api.Part) []api.Part {
	held := m.in(p.Range)
	if plainTally(held) == p.Tally {
		return nil
	}
	if len(held) <= c.Leaf {
		return parts(items(p.Range, held...))
	}
	var l []api.Part
	for _, r := range m.split(p.Range, min(c.Branch, len(held))) {
		l = append(l, m.print(r))
	}
	return l
}

func isNewer(a, b api.Version) bool {
	return a.Counter > b.Counter || a.Counter == b.Counter && a.Node > b.Node
}

// place is where key stands in the list, or would stand.
func place(l []api.Entry, key string) (int, bool) {
	return slices.BinarySearchFunc(l, key, func(e api.Entry, key string) int { return strings.Compare(e.Key, key) })
}

func plainLacks(mine, theirs []api.Entry) []api.Entry {
	var l []api.Entry
	for _, e := range mine {
		if i, is := place(theirs, e.Key); !is || isNewer(e.Version, theirs[i].Version) {
			l = append(l, e)
		}
	}
	return l
}

// take says whether e was taken, and whether it was refused.
func (m *plain) take(e api.Entry) (bool, bool) {
	i, is := place(m.held, e.Key)
	switch {
	case !is && len(m.held) == most:
		return false, true
	case !is:
		m.held = slices.Insert(m.held, i, e)
	case !isNewer(e.Version, m.held[i].Version):
		return false, false
	}
	m.held[i] = e
	m.clock = max(m.clock, e.Version.Counter)
	return true, false
}

func (m *plain) answer(c api.Config, l []api.Part) ([]api.Part, api.Heard) {
	var answer []api.Part
	var all api.Heard
	for _, p := range l {
		if p.Kind == 1 {
			answer = append(answer, m.compare(c, p)...)
			continue
		}
		if lacking := plainLacks(m.in(p.Range), p.Entries); p.Kind == 2 && len(lacking) > 0 {
			answer = append(answer, reply(p.Range, lacking...))
		}
		for _, e := range p.Entries {
			taken, full := m.take(e)
			if taken {
				all.Taken++
			}
			if full {
				all.Refused++
			}
		}
	}
	return answer, all
}

type plainTalk struct {
	m *plain
	c api.Config
	seen
}

func plainStart(m *plain, c api.Config, peer, life, number int) *plainTalk {
	n := name(m.node, life, number)
	first := api.Frame{From: m.node, To: peer, Session: n, Parts: parts(m.print(whole()))}
	return &plainTalk{m, c, seen{session: n, peer: peer, last: first}}
}

func plainJoin(m *plain, c api.Config, f api.Frame) *plainTalk {
	x := &plainTalk{m, c, seen{session: f.Session, peer: f.From}}
	x.listen(f)
	return x
}

func (x *plainTalk) listen(f api.Frame) (api.Frame, bool, api.Heard, api.Errno) {
	if len(f.Parts) == 0 {
		x.over, x.closed = true, true
		return api.Frame{}, false, api.Heard{}, api.OK
	}
	l, h := x.m.answer(x.c, f.Parts)
	if f.Turn+1 > lastTurn || len(l) > mostParts {
		x.over = true
		return api.Frame{}, false, h, api.OK
	}
	x.last = api.Frame{From: x.m.node, To: x.peer, Session: x.session, Turn: f.Turn + 1, Parts: l}
	if len(l) == 0 {
		x.over, x.closed = true, true
	}
	return x.last, true, h, api.OK
}

func (x *plainTalk) hear(f api.Frame) (api.Frame, bool, api.Heard, api.Errno) {
	if e := frame.Check(f); e != api.OK {
		return api.Frame{}, false, api.Heard{}, e
	}
	isOurs := f.Session == x.session && f.From == x.peer && f.To == x.m.node
	if isOurs && !x.over && f.Turn-x.last.Turn == 1 {
		return x.listen(f)
	}
	if isOurs && x.last.Turn-f.Turn == 1 {
		return x.last, true, api.Heard{}, api.OK
	}
	return api.Frame{}, false, api.Heard{}, api.ErrStale
}

// pair is a talk with its store, and the second reading of both.
type pair struct {
	x    *recon.Talk
	s    *store.Store
	also *plainTalk
}

func startPair(t *testing.T, node int, l []api.Entry, c api.Config, peer, life, number int) pair {
	t.Helper()
	s := holding(t, node, l)
	x, f := opened(t, s, c, peer, life, number)
	p := pair{x, s, plainStart(plainOf(node, l), c, peer, life, number)}
	if !frame.Same(f, p.also.last) {
		t.Fatalf("Start: %s, want %s", brief(f), brief(p.also.last))
	}
	p.isOne(t, "Start")
	return p
}

func joinPair(t *testing.T, node int, l []api.Entry, c api.Config, first api.Frame) pair {
	t.Helper()
	s := holding(t, node, l)
	x, f := joined(t, s, c, first)
	p := pair{x, s, plainJoin(plainOf(node, l), c, first)}
	if !frame.Same(f, p.also.last) {
		t.Fatalf("Join(%s): %s, want %s", brief(first), brief(f), brief(p.also.last))
	}
	p.isOne(t, "Join")
	return p
}

func (p pair) isOne(t *testing.T, what string) {
	t.Helper()
	isSeen(t, what, p.x, p.also.seen)
	isAs(t, what, p.s, p.also.m.node, p.also.m.clock, p.also.m.held)
}

// hear has both hear the frame, and asks that they answer the same, and are the same then.
func (p pair) hear(t *testing.T, f api.Frame) (api.Frame, bool, api.Heard, api.Errno) {
	t.Helper()
	joins := p.s.Joins()
	answer, is, h, e := p.x.Hear(f)
	want, wantIs, wantHeard, wantError := p.also.hear(f)
	if !frame.Same(answer, want) || is != wantIs || h != wantHeard || e != wantError {
		t.Fatalf("%s: Hear(%s): %s, %v, %v, %d, want %s, %v, %v, %d", told(look(p.x)), brief(f), brief(answer), is, h, e, brief(want), wantIs, wantHeard, wantError)
	}
	p.isOne(t, "Hear("+brief(f)+")")
	if e != api.OK && p.s.Joins() != joins {
		t.Fatalf("Hear(%s): %d, and %d joins, there were %d", brief(f), e, p.s.Joins(), joins)
	}
	return answer, is, h, e
}
