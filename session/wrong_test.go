package session_test

import (
	"math"
	"testing"

	"tideline/api"
	"tideline/frame"
)

// flawed is a frame that may not be, and the error of frame.Check.
type flawed struct {
	what string
	f    api.Frame
	e    api.Errno
}

type flawedList struct {
	what string
	l    []api.Part
	e    api.Errno
}

// flawedParts are lists of parts that may not be, and the errors of frame.CheckParts.
func flawedParts() []flawedList {
	r := rng("b", "d")
	withEntries := print(r, tally(1, 1, 1))
	withEntries.Entries = list(at("b"))
	withTally := items(r, at("b"))
	withTally.Tally = tally(1, 0, 0)
	return []flawedList{
		{"too many parts", append(parts(other(rng("", "\x00"))), tooMuch()...), api.ErrMany},
		{"too many parts, none of which may be", make([]api.Part, 10*mostParts), api.ErrMany},
		{"too many entries", parts(items(whole(), many(most+1)...)), api.ErrMany},
		{"the zero Part", parts(api.Part{}), api.ErrPart},
		{"the kind 4", parts(api.Part{Kind: 4, Range: r}), api.ErrPart},
		{"a kind below 0", parts(api.Part{Kind: math.MinInt, Range: r}), api.ErrPart},
		{"a Print with entries", parts(withEntries), api.ErrPart},
		{"Items with a Tally", parts(withTally), api.ErrPart},
		{"a long Lo", parts(other(from(tooLongKey))), api.ErrKey},
		{"an inverted range", parts(other(rng("d", "b"))), api.ErrRange},
		{"an Open range with an end", parts(items(api.Range{Lo: "b", Hi: "d", Open: true})), api.ErrRange},
		{"an empty range", parts(other(rng("b", "b"))), api.ErrTiles},
		{"two of the whole range", parts(other(whole()), other(whole())), api.ErrTiles},
		{"a Count below 0", parts(print(whole(), tally(-1, 0, 0))), api.ErrTally},
		{"a Count too great", parts(print(whole(), tally(most+1, 1, 1))), api.ErrTally},
		{"a Sum of nothing", parts(print(whole(), tally(0, 1, 0))), api.ErrTally},
		{"an entry with a long key", parts(items(whole(), at(tooLongKey))), api.ErrKey},
		{"an entry without a version", parts(reply(whole(), entry("b", 0, 0, ""))), api.ErrVersion},
		{"an entry with a long value", parts(items(whole(), entry("b", 1, 0, tooLongValue))), api.ErrValue},
		{"a dead entry with a value", parts(reply(whole(), api.Entry{Key: "b", Version: api.Version{Counter: 1}, Value: "v", Dead: true})), api.ErrDead},
		{"an entry beside the range", parts(items(r, at("d"))), api.ErrItems},
		{"a Reply without entries", parts(reply(whole())), api.ErrItems},
		{"a flaw behind parts that may be", parts(items(rng("a", "b"), entry("a", 99, 0, "new")), reply(r)), api.ErrItems},
	}
}

// flaws are frames with a flaw each, which are as good but for that.
func flaws(good api.Frame) []flawed {
	var l []flawed
	add := func(what string, e api.Errno, change func(f *api.Frame)) {
		f := frame.Clone(good)
		change(&f)
		l = append(l, flawed{what, f, e})
	}
	for _, n := range outside(0, 7) {
		add("From", api.ErrEnds, func(f *api.Frame) { f.From = n })
		add("To", api.ErrEnds, func(f *api.Frame) { f.To = n })
		add("the Opener", api.ErrEnds, func(f *api.Frame) { f.Session.Opener = n })
		add("an end and the name", api.ErrEnds, func(f *api.Frame) { f.To, f.Session.Life = n, n })
	}
	add("From To", api.ErrEnds, func(f *api.Frame) { f.From = f.To })
	add("To From", api.ErrEnds, func(f *api.Frame) { f.To = f.From })
	for _, n := range outside(1, mostLives) {
		add("Life", api.ErrName, func(f *api.Frame) { f.Session.Life = n })
		add("Number", api.ErrName, func(f *api.Frame) { f.Session.Number = n })
		add("the name and the turn", api.ErrName, func(f *api.Frame) { f.Session.Number, f.Turn = n, n })
	}
	for _, n := range outside(0, lastTurn) {
		add("Turn", api.ErrTurn, func(f *api.Frame) { f.Turn = n })
	}
	add("a turn that is not the sender's", api.ErrTurn, func(f *api.Frame) { f.Turn ^= 1 })
	for _, x := range flawedParts() {
		add(x.what, x.e, func(f *api.Frame) { f.Parts = x.l })
	}
	if good.Turn == 0 {
		for _, x := range [][]api.Part{nil, {}, {other(from("a"))}, {items(whole())}, {reply(whole(), at("a"))}, {other(rng("", "a")), other(from("a"))}} {
			add("no first frame", api.ErrPart, func(f *api.Frame) { f.Parts = x })
		}
	}
	add("all at once", api.ErrEnds, func(f *api.Frame) { *f = api.Frame{From: -1, Turn: -1, Parts: make([]api.Part, mostParts+1)} })
	add("the zero Frame", api.ErrEnds, func(f *api.Frame) { *f = api.Frame{} })
	return l
}

// state is a way in which a desk of node 3 may be.
type state struct {
	what string
	make func(t *testing.T) pair
}

// states are desks with no session, with one, with 16, open ones, closed ones, given up and forgotten ones.
func states() []state {
	fresh := func(t *testing.T) pair { return newPair(t, 3, many(9), config(2, 1, 3, 1), 1) }
	full := func(t *testing.T) pair {
		p := fresh(t)
		for i := range mostTalks {
			if p.hear(t, first(name(5, 2, i+1), 3, other(whole()))); i%4 == 0 {
				p.tick(t)
			}
		}
		return p
	}
	return []state{
		{"no session", fresh},
		{"one session, opened", func(t *testing.T) pair {
			p := fresh(t)
			p.open(t, 5)
			p.wait(t, 2)
			return p
		}},
		{"one session, begun", func(t *testing.T) pair {
			p := fresh(t)
			p.hear(t, first(name(5, 1, 1), 3, other(whole())))
			p.wait(t, 4)
			return p
		}},
		{"sessions of all sorts", func(t *testing.T) pair {
			p := fresh(t)
			f, _ := p.open(t, 5)
			p.hear(t, back(f))
			p.hear(t, agreeing(t, name(5, 1, 1), p.s))
			f, _ = p.open(t, 6)
			p.hear(t, first(name(6, 1, 1), 3, other(whole())))
			p.wait(t, 7)
			f, _ = p.open(t, 5)
			p.tick(t)
			p.hear(t, back(f, other(whole())))
			p.hear(t, first(name(5, 2, 2), 3, other(whole())))
			p.tick(t)
			return p
		}},
		{"16 sessions, all open", full},
		{"16 sessions, some closed", func(t *testing.T) pair {
			p := full(t)
			for _, i := range []int{3, 9, 12} {
				p.hear(t, api.Frame{From: 5, To: 3, Session: name(5, 2, i), Turn: 2})
			}
			return p
		}},
		{"all given up", func(t *testing.T) pair {
			p := full(t)
			p.wait(t, 6)
			return p
		}},
		{"all forgotten or closed", func(t *testing.T) pair {
			p := fresh(t)
			for i := range 2 * mostTalks {
				p.hear(t, agreeing(t, name(5, 1, i+1), p.s))
			}
			return p
		}},
		{"at the end of the clock", func(t *testing.T) pair {
			p := fresh(t)
			p.skip(lastTick - 1)
			p.open(t, 5)
			p.hear(t, first(name(5, 1, 1), 3, other(whole())))
			p.wait(t, 4)
			return p
		}},
	}
}

// refuses has both hear a frame, of which the error is known.
func (p pair) refuses(t *testing.T, what string, f api.Frame, want api.Errno) {
	t.Helper()
	hearRefuses(t, what, p.d, p.s, f, want)
	if _, _, _, e := p.hear(t, f); e != want {
		t.Fatalf("%s: %d, want %d", what, e, want)
	}
}

// P16.3, R2: frame.Check's errors ahead of all others, at desks of all sorts: of frames that would begin a session, be awaited, come again, be stale, or go elsewhere but for the flaw; behind all of them the desk is as it was.
func TestHearRefusesFlaws(t *testing.T) {
	for _, x := range states() {
		p := x.make(t)
		good := frames(
			first(name(5, 1, 1), 3, other(whole())),
			first(name(5, 3, 1), 3, other(whole())),
			first(name(4, 1, 1), 2, other(whole())),
			api.Frame{From: 5, To: 3, Session: name(5, 9, 9), Turn: 2},
		)
		for _, x := range p.also.talks {
			last := x.x.Last()
			good = append(good, back(last, other(whole())))
			if last.Turn > 0 {
				good = append(good, turned(back(last), last.Turn-1, other(whole())))
			}
			if len(good) > 9 {
				break
			}
		}
		for _, f := range good {
			for _, wrong := range flaws(f) {
				// A flaw of one frame may be none of another one's: a turn that is the other side's, where the opener is, too.
				if e := frame.Check(wrong.f); e != wrong.e {
					t.Fatalf("%s: %d, want %d", wrong.what, e, wrong.e)
				}
				hearRefuses(t, x.what+": "+wrong.what, p.d, p.s, wrong.f, wrong.e)
			}
		}
		p.isOne(t, x.what)
		p.settled(t)
	}
}

// P16.2, R2: ErrArg of peers, at desks of all sorts, also where there is no room; behind that the desk is as it was.
func TestOpenRefusesAtAllDesks(t *testing.T) {
	for _, x := range states() {
		p := x.make(t)
		for _, peer := range append(outside(0, 7), 3) {
			openRefuses(t, x.what, p.d, p.s, peer, api.ErrArg)
		}
		p.isOne(t, x.what)
		p.settled(t)
	}
}

// P16.3, R2: ErrStale and ErrBusy at desks of all sorts, and nothing is another one behind them: neither when frames are due, nor what is refused, nor the next number.
func TestRefusedChangesNothing(t *testing.T) {
	count := map[api.Errno]int{}
	for _, x := range states() {
		p := x.make(t)
		for _, n := range []api.Name{name(5, 1, 1), name(5, 2, 1), name(5, 2, 16), name(5, 2, 17), name(5, 3, 1), name(3, 1, 1), name(3, 1, 2), name(6, 1, 1), name(4, 1, 1)} {
			for turn := range 6 {
				for to := range 8 {
					f := api.Frame{From: n.Opener, To: to, Session: n, Turn: turn, Parts: parts(other(whole()))}
					if turn%2 == 1 {
						f.From, f.To = f.To, f.From
					}
					if frame.Check(f) != api.OK {
						continue
					}
					// What it takes is not what is asked for here.
					if want := refusalOf(p.also, f); want != api.OK {
						p.refuses(t, x.what, f, want)
						count[want]++
					}
				}
			}
		}
		if len(p.also.talks) == mostTalks && firstOver(p.d.Talks()) == (api.Talk{}) {
			openRefuses(t, x.what, p.d, p.s, 5, api.ErrBusy)
			count[api.ErrBusy]++
		}
		p.settled(t)
		if f, e := p.open(t, 5); e != api.OK || f.Session.Number != p.also.opened {
			t.Fatal(x.what, brief(f), e)
		}
	}
	if count[api.ErrStale] < 500 || count[api.ErrBusy] < 5 {
		t.Error(count)
	}
}

// refusalOf is what a desk that is as d says to a frame that may be, if it refuses it.
func refusalOf(d *plainDesk, f api.Frame) api.Errno {
	if f.To != d.s.Node() {
		return api.ErrStale
	}
	if i := d.place(f.Session); i >= 0 {
		last, over := d.talks[i].x.Last(), d.talks[i].x.Over()
		if f.From == last.To && (f.Turn == last.Turn-1 || f.Turn == last.Turn+1 && !over) {
			return api.OK
		}
		return api.ErrStale
	}
	if f.Turn > 0 {
		return api.ErrStale
	}
	for _, n := range d.gone {
		if n.Opener == f.Session.Opener && frame.CompareNames(n, f.Session) >= 0 {
			return api.ErrStale
		}
	}
	if len(d.talks) == mostTalks && firstOver(d.told()) == (api.Talk{}) {
		return api.ErrBusy
	}
	return api.OK
}

// R1: no call panics, whatever it is handed.
func TestNothingPanics(t *testing.T) {
	numbers := []int{math.MinInt, -1, 0, 1, 2, 3, 5, lastTurn, lastTurn + 1, math.MaxInt}
	for _, x := range states() {
		p := x.make(t)
		for _, n := range numbers {
			p.open(t, n)
			for _, m := range numbers {
				for _, l := range [][]api.Part{nil, {{}}, {other(whole())}, make([]api.Part, 2000)} {
					p.hear(t, api.Frame{From: n, To: m, Session: name(n, m, n), Turn: m, Parts: l})
					p.hear(t, api.Frame{From: m, To: 3, Session: name(n, n, m), Turn: n, Parts: l})
				}
			}
			p.tick(t)
		}
		p.settled(t)
	}
}
