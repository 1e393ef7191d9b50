package frame_test

import (
	"math"
	"slices"
	"strings"

	"tideline/api"
)

const (
	mostParts   = 768     // of a frame
	mostEntries = 256     // of all its parts together
	lastTurn    = 63      // turns are numbered from 0 on
	greatest    = 1 << 40 // the greatest Counter that may be
	mostLives   = 1 << 20 // and as many sessions in a life
)

var (
	lowest       = strings.Repeat("\x00", 16)
	highest      = strings.Repeat("\xFF", 16) // no key is above it
	longKey      = strings.Repeat("k", 16)
	tooLongKey   = strings.Repeat("k", 17)
	longValue    = strings.Repeat("v", 32)
	tooLongValue = strings.Repeat("v", 33)
)

func whole() api.Range { return api.Range{Open: true} }

func rng(lo, hi string) api.Range { return api.Range{Lo: lo, Hi: hi} }

func from(lo string) api.Range { return api.Range{Lo: lo, Open: true} }

func openTo(lo, hi string) api.Range { return api.Range{Lo: lo, Hi: hi, Open: true} }

func entry(key string, counter, node int, value string) api.Entry {
	return api.Entry{Key: key, Version: api.Version{Counter: counter, Node: node}, Value: value}
}

func dead(key string, counter, node int) api.Entry {
	return api.Entry{Key: key, Version: api.Version{Counter: counter, Node: node}, Dead: true}
}

func at(key string) api.Entry { return entry(key, 1, 0, "") }

// under are entries of these keys, with unlike versions and values, every third one dead.
func under(keys ...string) []api.Entry {
	var l []api.Entry
	for i, key := range keys {
		e := entry(key, i+1, i%8, "v"+key[:min(len(key), 3)])
		if i%3 == 2 {
			e.Value, e.Dead = "", true
		}
		l = append(l, e)
	}
	return l
}

// numbered are n keys, rising, from the first-th one on.
func numbered(first, n int) []string {
	var l []string
	for i := range n {
		l = append(l, "k"+string([]byte{byte((first + i) >> 8), byte(first + i)}))
	}
	return l
}

func tally(count int, lane0, lane1 uint64) api.Tally {
	return api.Tally{Count: count, Sum: api.Sum{lane0, lane1}}
}

func print(r api.Range, t api.Tally) api.Part {
	return api.Part{Kind: 1, Range: r, Tally: t}
}

func items(r api.Range, l ...api.Entry) api.Part {
	return api.Part{Kind: 2, Range: r, Entries: l}
}

func reply(r api.Range, l ...api.Entry) api.Part {
	return api.Part{Kind: 3, Range: r, Entries: l}
}

func parts(l ...api.Part) []api.Part { return l }

func name(opener, life, number int) api.Name {
	return api.Name{Opener: opener, Life: life, Number: number}
}

// s is the session of the chapter's examples.
func s() api.Name { return name(1, 1, 1) }

// said is a frame of the session s, of the side whose turn it is; its peer is node 2.
func said(turn int, l ...api.Part) api.Frame {
	f := api.Frame{From: 1, To: 2, Session: s(), Turn: turn, Parts: l}
	if turn%2 != 0 {
		f.From, f.To = 2, 1
	}
	return f
}

// rows are n ranges that touch, each with two of the numbered keys; the last one is Open.
func rows(n int) []api.Range {
	keys := numbered(0, 2*n)
	var l []api.Range
	for i := range n - 1 {
		l = append(l, rng(keys[2*i], keys[2*i+2]))
	}
	return append(l, from(keys[2*n-2]))
}

// prints are n Prints, with Counts from 0 on, as far as these go.
func prints(n int) []api.Part {
	var l []api.Part
	for i, r := range rows(n) {
		count := i % (mostEntries + 1)
		l = append(l, print(r, tally(count, uint64(count)*3, uint64(count)<<63)))
	}
	return l
}

// withEntries are n parts, Items and Replies by turns, with one entry in each of the first, up to so many entries; those behind are Items without any.
func withEntries(n, entries int) []api.Part {
	keys := numbered(0, 2*n)
	var l []api.Part
	for i, r := range rows(n) {
		p := items(r)
		if i < entries {
			p.Entries = under(keys[2*i+i%2])
			p.Kind = 2 + i%2
		}
		l = append(l, p)
	}
	return l
}

// goodParts are lists of parts that may be.
func goodParts() [][]api.Part {
	many := numbered(0, mostEntries)
	return [][]api.Part{
		nil,
		{},
		{print(whole(), tally(0, 0, 0))},
		{print(whole(), tally(mostEntries, math.MaxUint64, math.MaxUint64))},
		{print(whole(), tally(1, 0, 0))},
		{print(rng("a", "c"), tally(1, 0, 7)), print(rng("c", "d"), tally(2, 7, 0))},
		{print(rng("", "\x00"), tally(1, 1, 1)), print(rng("\x00", "\x00\x00"), tally(0, 0, 0)), print(from(highest), tally(1, 2, 3))},
		{items(whole())},
		{items(rng("a", "c"))},
		{items(rng("a", "c"), under("a", "b")...)},
		{items(rng("a", "c"), under("a", "a\x00", "aa", "b", "b\xFF")...)},
		{items(rng("", "a"), dead("", greatest, 7))},
		{items(rng(highest[:15], highest), under(highest[:15])...), reply(from(highest), entry(highest, greatest, 7, longValue))},
		{reply(whole(), under(many...)...)},
		{items(whole(), under(many...)...)},
		{reply(rng("a", "b"), at("a")), print(rng("b", "c"), tally(3, 4, 5)), items(rng("d", "e")), reply(from("x"), under("x", "y")...)},
		{items(rng("a", "k"), under("a", "b", "c")...), items(rng("k", "l"), under("k", longKey)...), reply(from("l"), under("l", "ä", highest)...)},
		prints(2),
		prints(mostParts),
		withEntries(mostEntries, mostEntries),
		withEntries(mostParts, mostEntries),
	}
}

// goodFrames are frames that may be: of the edges of each number, and with each of the lists of parts.
func goodFrames() []api.Frame {
	l := []api.Frame{
		{From: 0, To: 7, Session: name(0, 1, 1), Parts: parts(print(whole(), tally(0, 0, 0)))},
		{From: 7, To: 0, Session: name(7, mostLives, mostLives), Parts: parts(print(whole(), tally(9, 1, 2)))},
		{From: 7, To: 0, Session: name(0, mostLives, 1), Turn: 1},
		{From: 0, To: 7, Session: name(7, 1, mostLives), Turn: lastTurn},
		{From: 0, To: 1, Session: name(0, 2, 3), Turn: lastTurn - 1, Parts: parts(reply(whole(), at("a")))},
	}
	for i, p := range goodParts() {
		l = append(l, said(i%lastTurn+1, p...))
	}
	return l
}

// wrongFrames are frames that may not be, of all sorts.
func wrongFrames() []api.Frame {
	return []api.Frame{
		{},
		{From: math.MinInt, To: math.MaxInt, Session: name(math.MinInt, math.MaxInt, -1), Turn: math.MinInt},
		{From: 1, To: 1, Session: s(), Parts: []api.Part{}},
		said(0),
		said(lastTurn+1, print(whole(), tally(-1, 5, 0))),
		said(2, api.Part{}),
		said(2, api.Part{}, api.Part{Kind: math.MinInt}),
		said(3, api.Part{Kind: 1, Range: openTo("b", "a"), Tally: tally(math.MinInt, 1, 2), Entries: []api.Entry{{}}}),
		said(4, api.Part{Kind: 9, Range: rng(tooLongKey, ""), Tally: tally(math.MaxInt, 1, 2), Entries: []api.Entry{entry(tooLongKey, -1, 99, tooLongValue), {Value: "x", Dead: true}}}),
		said(5, reply(whole()), reply(whole()), items(rng("c", "a"), at("b"), at("a"))),
		said(6, items(whole(), under(numbered(0, mostEntries+1)...)...)),
		said(7, prints(mostParts+1)...),
	}
}

// anyNumbers are numbers at all edges, and beyond them.
func anyNumbers() []int {
	return []int{math.MinInt, math.MinInt + 1, -mostLives, -8, -2, -1, 0, 1, 2, 3, 7, 8, 9, lastTurn - 1, lastTurn, lastTurn + 1, mostLives - 1, mostLives, mostLives + 1, 1 << 32, 1<<32 + 1, math.MaxInt - 1, math.MaxInt}
}

// copied is a frame with lists of its own.
func copied(f api.Frame) api.Frame {
	l := slices.Clone(f.Parts)
	for i := range l {
		l[i].Entries = slices.Clone(l[i].Entries)
	}
	f.Parts = l
	return f
}

// alike is a second reading of when two frames are the same.
func alike(a, b api.Frame) bool {
	if a.From != b.From || a.To != b.To || a.Turn != b.Turn || len(a.Parts) != len(b.Parts) {
		return false
	}
	if a.Session.Opener != b.Session.Opener || a.Session.Life != b.Session.Life || a.Session.Number != b.Session.Number {
		return false
	}
	for i := range a.Parts {
		if !alikeParts(a.Parts[i], b.Parts[i]) {
			return false
		}
	}
	return true
}

func alikeParts(p, q api.Part) bool {
	if p.Kind != q.Kind || p.Range.Lo != q.Range.Lo || p.Range.Hi != q.Range.Hi || p.Range.Open != q.Range.Open {
		return false
	}
	if p.Tally.Count != q.Tally.Count || p.Tally.Sum[0] != q.Tally.Sum[0] || p.Tally.Sum[1] != q.Tally.Sum[1] || len(p.Entries) != len(q.Entries) {
		return false
	}
	for i := range p.Entries {
		if p.Entries[i] != q.Entries[i] {
			return false
		}
	}
	return true
}
