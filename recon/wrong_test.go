package recon_test

import (
	"math"
	"slices"
	"testing"

	"tideline/api"
	"tideline/frame"
	"tideline/store"
)

// flawed is a frame that may not be, and the error of frame.Check.
type flawed struct {
	what string
	f    api.Frame
	e    api.Errno
}

// flawedParts are lists of parts that may not be, and the errors of frame.CheckParts.
func flawedParts() []struct {
	what string
	l    []api.Part
	e    api.Errno
} {
	r := rng("b", "d")
	withEntries := print(r, tally(1, 1, 1))
	withEntries.Entries = list(at("b"))
	withTally := items(r, at("b"))
	withTally.Tally = tally(1, 0, 0)
	var tooMany []api.Part
	for _, r := range lines(mostParts+1, 1) {
		tooMany = append(tooMany, other(r))
	}
	return []struct {
		what string
		l    []api.Part
		e    api.Errno
	}{
		{"too many parts", tooMany, api.ErrMany},
		{"too many parts, none of which may be", make([]api.Part, 10*mostParts), api.ErrMany},
		{"too many entries", parts(items(whole(), under(numbered(0, most+1), 0)...)), api.ErrMany},
		{"too many entries of two parts", parts(reply(rng("a", "l"), many(most)...), items(from("l"), at("m"))), api.ErrMany},
		{"the zero Part", parts(api.Part{}), api.ErrPart},
		{"the kind 4", parts(api.Part{Kind: 4, Range: r}), api.ErrPart},
		{"a kind below 0", parts(api.Part{Kind: math.MinInt, Range: r}), api.ErrPart},
		{"a Print with entries", parts(withEntries), api.ErrPart},
		{"Items with a Tally", parts(withTally), api.ErrPart},
		{"a long Lo", parts(other(from(tooLongKey))), api.ErrKey},
		{"a long Hi", parts(items(rng("b", tooLongKey))), api.ErrKey},
		{"an inverted range", parts(other(rng("d", "b"))), api.ErrRange},
		{"an Open range with an end", parts(items(openTo("b", "d"))), api.ErrRange},
		{"an empty range", parts(other(rng("b", "b"))), api.ErrTiles},
		{"two of the whole range", parts(other(whole()), other(whole())), api.ErrTiles},
		{"the second one below the first", parts(reply(r, at("b")), items(rng("a", "b"))), api.ErrTiles},
		{"a Count below 0", parts(print(whole(), tally(-1, 0, 0))), api.ErrTally},
		{"a Count too great", parts(print(whole(), tally(most+1, 1, 1))), api.ErrTally},
		{"a Sum of nothing", parts(print(whole(), tally(0, 1, 0))), api.ErrTally},
		{"an entry with a long key", parts(items(whole(), at(tooLongKey))), api.ErrKey},
		{"an entry without a version", parts(reply(whole(), entry("b", 0, 0, ""))), api.ErrVersion},
		{"an entry of no node", parts(items(whole(), entry("b", 1, 8, ""))), api.ErrVersion},
		{"an entry with a long value", parts(items(whole(), entry("b", 1, 0, tooLongValue))), api.ErrValue},
		{"a dead entry with a value", parts(reply(whole(), api.Entry{Key: "b", Version: api.Version{Counter: 1}, Value: "v", Dead: true})), api.ErrDead},
		{"an entry beside the range", parts(items(r, at("d"))), api.ErrItems},
		{"entries that do not rise", parts(reply(whole(), at("c"), at("b"))), api.ErrItems},
		{"a Reply without entries", parts(reply(whole())), api.ErrItems},
		{"a flaw behind parts that may be", parts(items(rng("a", "b"), entry("a", 99, 0, "new")), reply(r)), api.ErrItems},
	}
}

// flaws are frames with a flaw each, which are as good but for that.
func flaws(good api.Frame) []flawed {
	var l []flawed
	add := func(what string, e api.Errno, change func(f *api.Frame)) {
		f := frame.Clone(good)
		change(&f)
		l = append(l, flawed{what, f, e})
	}
	for _, n := range outside(0, 7) {
		add("From", api.ErrEnds, func(f *api.Frame) { f.From = n })
		add("To", api.ErrEnds, func(f *api.Frame) { f.To = n })
		add("the Opener", api.ErrEnds, func(f *api.Frame) { f.Session.Opener = n })
		add("an end and the name", api.ErrEnds, func(f *api.Frame) { f.To, f.Session.Life = n, n })
	}
	add("From To", api.ErrEnds, func(f *api.Frame) { f.From = f.To })
	add("To From", api.ErrEnds, func(f *api.Frame) { f.To = f.From })
	add("an Opener beside", api.ErrEnds, func(f *api.Frame) { f.Session.Opener = 6 })
	for _, n := range outside(1, mostLives) {
		add("Life", api.ErrName, func(f *api.Frame) { f.Session.Life = n })
		add("Number", api.ErrName, func(f *api.Frame) { f.Session.Number = n })
		add("the name and the turn", api.ErrName, func(f *api.Frame) { f.Session.Number, f.Turn = n, n })
	}
	for _, n := range outside(0, lastTurn) {
		add("Turn", api.ErrTurn, func(f *api.Frame) { f.Turn = n })
	}
	add("a turn that is not the sender's", api.ErrTurn, func(f *api.Frame) { f.Turn ^= 1 })
	add("that, and what may not be in a first frame", api.ErrTurn, func(f *api.Frame) { f.Turn, f.Parts = f.Turn^1, nil })
	for _, x := range flawedParts() {
		add(x.what, x.e, func(f *api.Frame) { f.Parts = x.l })
	}
	add("all at once", api.ErrEnds, func(f *api.Frame) { *f = api.Frame{From: -1, Turn: -1, Parts: make([]api.Part, mostParts+1)} })
	add("the zero Frame", api.ErrEnds, func(f *api.Frame) { *f = api.Frame{} })
	return l
}

// firstFlaws are frames of turn 0 from node 3 to node 5 with a flaw each, those of a first frame alone too.
func firstFlaws() []flawed {
	good := api.Frame{From: 3, To: 5, Session: name(3, 2, 7), Parts: parts(other(whole()))}
	l := flaws(good)
	for _, x := range [][]api.Part{
		nil, {}, {other(from("a"))}, {other(rng("", highest))}, {items(whole())}, {reply(whole(), at("a"))},
		{other(rng("", "a")), other(from("a"))}, {items(rng("", "a")), other(from("a"))},
	} {
		f := good
		f.Parts = x
		l = append(l, flawed{"no first frame", f, api.ErrPart})
	}
	return l
}

// refusing are stores of a node of which wrong calls must change nothing: of no entry, of one, of some, and full.
func refusing(t *testing.T, node int) []*store.Store {
	return []*store.Store{holding(t, node, nil), holding(t, node, list(dead("b", 3, 0))), holding(t, node, many(9)), holding(t, node, many(most))}
}

// P14.2, P14.3: ErrArg of a Config, ahead of all that is wrong with the names and frames.
func TestConfigIsAskedFirst(t *testing.T) {
	good := api.Frame{From: 3, To: 5, Session: name(3, 2, 7), Parts: parts(other(whole()))}
	later := api.Frame{From: 3, To: 5, Session: name(3, 2, 7), Turn: 2}
	for _, c := range spoiltConfigs() {
		s := holding(t, 5, many(2))
		startRefuses(t, "a Config", s, c, 3, 1, 1, api.ErrArg)
		startRefuses(t, "a Config, and the peer", s, c, 5, 1, 1, api.ErrArg)
		startRefuses(t, "a Config, and the name", s, c, 3, 0, 0, api.ErrArg)
		startRefuses(t, "a Config, and all else", s, c, -1, -1, -1, api.ErrArg)
		joinRefuses(t, "a Config", s, c, good, api.ErrArg)
		joinRefuses(t, "a Config, and a frame that is stale", s, c, later, api.ErrArg)
		joinRefuses(t, "a Config, and the zero Frame", s, c, api.Frame{}, api.ErrArg)
	}
	for _, x := range firstFlaws() {
		joinRefuses(t, "a Config, and "+x.what, holding(t, 5, nil), config(1, 1), x.f, api.ErrArg)
	}
}

// P14.2: frame.First's errors: the peer's ahead of the name's; nothing of the store has changed, its joins neither.
func TestStartRefuses(t *testing.T) {
	for node := range 8 {
		for _, s := range refusing(t, node) {
			for _, c := range sampleConfigs() {
				startRefuses(t, "itself", s, c, node, 1, 1, api.ErrEnds)
				startRefuses(t, "itself, and the name", s, c, node, 0, mostLives+1, api.ErrEnds)
			}
			for _, peer := range outside(0, 7) {
				startRefuses(t, "the peer", s, config(2, 1), peer, 1, 1, api.ErrEnds)
				startRefuses(t, "the peer, and the name", s, config(2, 1), peer, 0, 0, api.ErrEnds)
			}
			peer := (node + 1) % 8
			for _, n := range outside(1, mostLives) {
				startRefuses(t, "the life", s, config(2, 1), peer, n, 1, api.ErrName)
				startRefuses(t, "the number", s, config(2, 1), peer, 1, n, api.ErrName)
				startRefuses(t, "both", s, config(2, 1), peer, n, n, api.ErrName)
			}
		}
	}
}

// P14.3: frame.Check's errors.
func TestJoinRefuses(t *testing.T) {
	for _, x := range firstFlaws() {
		for _, s := range refusing(t, 5) {
			joinRefuses(t, x.what, s, config(2, 1), x.f, x.e)
		}
		// Also at a node to which it does not go, which would be stale.
		joinRefuses(t, x.what+", at another node", holding(t, 4, many(3)), config(2, 1), x.f, x.e)
	}
	later := api.Frame{From: 3, To: 5, Session: name(3, 2, 7), Turn: 2, Parts: parts(other(whole()))}
	for _, x := range flaws(later) {
		joinRefuses(t, x.what+", at turn 2", holding(t, 5, many(3)), config(2, 1), x.f, x.e)
	}
}

// P14.3: ErrStale of frames of other turns, and of those that do not go to this node.
func TestJoinOfStaleFrames(t *testing.T) {
	for _, s := range refusing(t, 5) {
		for turn := 1; turn <= lastTurn; turn++ {
			f := api.Frame{From: 3, To: 5, Session: name(3, 2, 7), Turn: turn, Parts: parts(other(whole()))}
			if turn%2 == 1 {
				f.Session.Opener = 5
			}
			joinRefuses(t, "a later turn", s, config(2, 1), f, api.ErrStale)
			f.Parts = nil
			joinRefuses(t, "a later turn, closing", s, config(2, 1), f, api.ErrStale)
			f.Parts = parts(items(whole(), entry("new", 99, 0, "")))
			joinRefuses(t, "a later turn, with entries", s, config(2, 1), f, api.ErrStale)
		}
		for node := range 8 {
			for peer := range 8 {
				f := api.Frame{From: node, To: peer, Session: name(node, 2, 7), Parts: parts(other(whole()))}
				if node != peer && peer != 5 {
					joinRefuses(t, "to another node", s, config(2, 1), f, api.ErrStale)
				}
			}
		}
	}
}

// sidesAt are talks of both sides, with their stores: at their first turns, later on, and over.
func sidesAt(t *testing.T) []side {
	var l []side
	for _, held := range [][]api.Entry{nil, many(9), many(most)} {
		opener, peer := bothSides(t, config(2, 1), held)
		l = append(l, opener, peer)
		opener, peer = bothSides(t, config(16, 32), held)
		upTo(t, opener.x, 10)
		upTo(t, peer.x, 11)
		l = append(l, opener, peer)
	}
	opener, peer := bothSides(t, config(2, 1), many(9))
	upTo(t, opener.x, lastTurn-1)
	upTo(t, peer.x, lastTurn)
	l = append(l, opener, peer)
	for _, x := range ends(t) {
		l = append(l, x.side)
	}
	return l
}

// P14.4: frame.Check's error, whatever the talk awaits; also of frames that are not the talk's, or would be stale, or have come again.
func TestHearRefuses(t *testing.T) {
	for _, x := range sidesAt(t) {
		turn := x.x.Last().Turn
		for _, at := range []int{turn + 1, turn - 1, turn - 3, turn + 3} {
			if at < 1 || at > lastTurn {
				continue
			}
			good := to(x.x, at, items(whole(), entry("new", 99, 0, "")))
			for _, wrong := range flaws(good) {
				if e := frame.Check(wrong.f); e != wrong.e {
					t.Fatalf("%s: %d, want %d", wrong.what, e, wrong.e)
				}
				hearRefuses(t, x.what+": "+wrong.what, x.x, x.s, wrong.f, wrong.e)
				f := wrong.f
				if f.Session.Number == good.Session.Number {
					f.Session.Number++
					hearRefuses(t, x.what+", of another session: "+wrong.what, x.x, x.s, f, wrong.e)
				}
			}
		}
		if x.s.Node() == 5 {
			for _, wrong := range firstFlaws() {
				hearRefuses(t, x.what+": turn 0: "+wrong.what, x.x, x.s, wrong.f, wrong.e)
			}
		}
	}
}

// strange are frames that may be, of each turn, and are not the talk's.
func strange(x side) []flawed {
	var l []flawed
	own := x.x.Last()
	add := func(what string, f api.Frame) {
		// What a frame of turn 0 may not say is refused by its own error.
		if frame.Check(f) == api.OK {
			l = append(l, flawed{what, f, api.ErrStale})
		}
	}
	for turn := (own.Turn + 1) % 2; turn <= lastTurn; turn += 2 {
		for _, said := range [][]api.Part{{other(whole())}, {items(whole(), entry("new", 99, 0, ""))}, nil} {
			good := to(x.x, turn, said...)
			for _, more := range []int{-1, 1, 100} {
				f := good
				f.Session.Life += more
				add("another life", f)
				f = good
				f.Session.Number += more
				add("another number", f)
			}
			f := good
			f.Session.Life, f.Session.Number = 7, 2
			add("life and number the wrong way round", f)
			f = good
			f.Session.Opener = 8 - f.Session.Opener
			f.Turn ^= 1
			add("opened by the other one", f)
			f = good
			if f.Session.Opener == f.To {
				f.From = 6
				add("from another node", f)
			} else {
				f.To = 6
				add("to another node", f)
				f.From, f.To, f.Session.Opener = 6, 5, 6
				add("opened by another node", f)
				f.From, f.To = 5, 6
				f.Turn ^= 1
				add("its own, to another node", f)
			}
		}
	}
	add("its own last frame", own)
	return l
}

// P14.4: ErrStale for each way in which a frame is not the talk's, at each turn, at talks that are over, too.
func TestStrangeFrames(t *testing.T) {
	count := map[string]int{}
	for _, x := range sidesAt(t) {
		for _, f := range strange(x) {
			hearRefuses(t, x.what+": "+f.what, x.x, x.s, f.f, f.e)
			count[f.what]++
		}
	}
	if len(count) != 9 {
		t.Errorf("%d ways: %v", len(count), count)
	}
}

// P14.10: behind all that it refused a talk goes on as one that was never handed any of it.
func TestGoesOnAfterErrors(t *testing.T) {
	a, b := many(100), under(numbered(40, 100), 600)
	c := config(3, 2)
	m := begun(t, a, b, c, c)
	for is := true; is; {
		for _, x := range []side{{"the opener", m.x, m.s3}, {"the peer", m.y, m.s5}} {
			turn := x.x.Last().Turn
			for _, f := range flaws(to(x.x, turn+1, items(whole()))) {
				hearRefuses(t, f.what, x.x, x.s, f.f, f.e)
			}
			for at := 1; at <= lastTurn; at++ {
				if at%2 != turn%2 && at != turn+1 && at != turn-1 {
					hearRefuses(t, "stale", x.x, x.s, to(x.x, at, reply(whole(), entry("new", 9999, 0, ""))), api.ErrStale)
				}
			}
		}
		is = m.step(t)
	}
	sameSession(t, m, begun(t, a, b, c, c).through(t))
}

// P14.10: an older entry, or one of the same version, takes no place, by whatever part it comes.
func TestOlderEntriesTakeNoPlace(t *testing.T) {
	held := under(oddKeys(), 50)
	older := slices.Clone(held)
	for i := range older {
		older[i] = entry(held[i].Key, held[i].Version.Counter-1, 7, "older")
		if i%2 == 0 {
			older[i] = dead(held[i].Key, held[i].Version.Counter, 0)
		}
	}
	for _, l := range [][]api.Part{
		{reply(whole(), older...)},
		{items(whole(), older...)},
		{reply(rng("", "a"), older[:5]...), items(from("a"), older[5:]...)},
		{reply(whole(), held...)},
	} {
		for _, p := range pairs(t, config(2, 1), held) {
			if _, _, h, e := p.hear(t, next(p.x, l...)); h != (api.Heard{}) || e != api.OK {
				t.Fatal(h, e)
			}
			isAs(t, "older entries", p.s, p.s.Node(), clockOf(held), held)
		}
	}
}

// R3: with an error nothing that was handed in is changed either.
func TestRefusedFramesAreNotChanged(t *testing.T) {
	opener, peer := bothSides(t, config(2, 1), many(9))
	for _, x := range []side{opener, peer} {
		for _, wrong := range append(flaws(next(x.x, items(whole()))), firstFlaws()...) {
			own := roomy(wrong.f)
			was := everything(own)
			x.x.Hear(own)
			joinRefuses(t, wrong.what, x.s, config(2, 1), own, frame.Check(own))
			if !frame.Same(everything(own), was) {
				t.Errorf("%s: it was changed: %s", wrong.what, brief(own))
			}
		}
	}
}
