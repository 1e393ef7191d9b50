package wire_test

import (
	"fmt"
	"math"
	"slices"
	"strconv"
	"strings"
	"testing"

	"tideline/api"
	"tideline/wire"
)

const (
	mostParts   = 768     // of a frame
	mostEntries = 256     // of all its parts together
	mostBytes   = 65536   // more than any frame needs
	lastNode    = 7       // nodes are numbered from 0 on
	lastTurn    = 63      // and turns
	greatest    = 1 << 40 // the greatest Counter that may be
	mostLives   = 1 << 20 // and as many sessions in a life
)

var (
	lowest       = strings.Repeat("\x00", 16)
	highest      = strings.Repeat("\xFF", 16) // no key is above it
	longKey      = strings.Repeat("k", 16)
	tooLongKey   = strings.Repeat("k", 17)
	longValue    = strings.Repeat("v", 32)
	tooLongValue = strings.Repeat("v", 33)
)

func whole() api.Range { return api.Range{Open: true} }

func rng(lo, hi string) api.Range { return api.Range{Lo: lo, Hi: hi} }

func from(lo string) api.Range { return api.Range{Lo: lo, Open: true} }

func entry(key string, counter, node int, value string) api.Entry {
	return api.Entry{Key: key, Version: api.Version{Counter: counter, Node: node}, Value: value}
}

func dead(key string, counter, node int) api.Entry {
	return api.Entry{Key: key, Version: api.Version{Counter: counter, Node: node}, Dead: true}
}

func at(key string) api.Entry { return entry(key, 1, 0, "") }

func tally(count int, lane0, lane1 uint64) api.Tally {
	return api.Tally{Count: count, Sum: api.Sum{lane0, lane1}}
}

func print(r api.Range, t api.Tally) api.Part { return api.Part{Kind: 1, Range: r, Tally: t} }

func items(r api.Range, l ...api.Entry) api.Part { return api.Part{Kind: 2, Range: r, Entries: l} }

func reply(r api.Range, l ...api.Entry) api.Part { return api.Part{Kind: 3, Range: r, Entries: l} }

func name(opener, life, number int) api.Name {
	return api.Name{Opener: opener, Life: life, Number: number}
}

// said is a frame of the session {1, 1, 1}, of the side whose turn it is; the peer is node 2.
func said(turn int, l ...api.Part) api.Frame {
	f := api.Frame{From: 1, To: 2, Session: name(1, 1, 1), Turn: turn, Parts: l}
	if turn%2 != 0 {
		f.From, f.To = 2, 1
	}
	return f
}

// The frames of the chapter's rows, and their bytes.

func firstRow() api.Frame { return said(1) }

func secondRow() api.Frame {
	return api.Frame{From: 1, To: 2, Session: name(1, 1, 300), Parts: []api.Part{print(whole(), tally(1, 2, 3))}}
}

func thirdRow() api.Frame { return said(1, reply(rng("a", "b"), dead("a", 7, 0))) }

const (
	firstBytes  = "\x02\x01\x01\x01\x01\x01\x00"
	secondBytes = "\x01\x02\x01\x01\xAC\x02\x00\x01" + "\x01\x00\x01" + "\x01" + "\x00\x00\x00\x00\x00\x00\x00\x02" + "\x00\x00\x00\x00\x00\x00\x00\x03"
	thirdBytes  = "\x02\x01\x01\x01\x01\x01\x01" + "\x03\x01a\x00\x01b" + "\x01" + "\x01a\x07\x00\x01"
)

// numbered are n keys, rising.
func numbered(n int) []string {
	var l []string
	for i := range n {
		l = append(l, "k"+string([]byte{byte(i >> 8), byte(i)}))
	}
	return l
}

// under are entries of these keys, with unlike versions and values, every third one dead.
func under(keys ...string) []api.Entry {
	var l []api.Entry
	for i, key := range keys {
		e := entry(key, i*i+1, i%8, "v"+strconv.Itoa(i))
		if i%3 == 2 {
			e = dead(key, i+1, i%8)
		}
		l = append(l, e)
	}
	return l
}

// wide are n keys of as many bytes as may be, rising.
func wide(n int) []string {
	var l []string
	for _, key := range numbered(n) {
		l = append(l, key+strings.Repeat("\xFF", 16-len(key)))
	}
	return l
}

// prints are n Prints whose ranges touch, with Counts from 0 on, as far as these go; the last one is Open.
func prints(n int) []api.Part {
	keys := numbered(n)
	var l []api.Part
	for i, key := range keys {
		count := i % (mostEntries + 1)
		r := from(key)
		if i+1 < n {
			r = rng(key, keys[i+1])
		}
		l = append(l, print(r, tally(count, uint64(count)*3, uint64(count)<<56)))
	}
	return l
}

// single are n parts with one entry each, Items and Replies by turns.
func single(n int) []api.Part {
	var l []api.Part
	for i, p := range prints(n) {
		l = append(l, api.Part{Kind: 2 + i%2, Range: p.Range, Entries: []api.Entry{entry(p.Range.Lo, i+1, i%8, "v")}})
	}
	return l
}

// widest is a frame of as many bytes as one may have: one part with all the entries, and else Prints.
func widest() api.Frame {
	borders := wide(mostEntries + mostParts)
	var entries []api.Entry
	for _, key := range borders[:mostEntries] {
		entries = append(entries, entry(key, greatest, lastNode, longValue))
	}
	borders = borders[mostEntries:]
	l := []api.Part{items(rng(entries[0].Key, borders[0]), entries...)}
	for i := range mostParts - 1 {
		l = append(l, print(rng(borders[i], borders[i+1]), tally(mostEntries, math.MaxUint64, math.MaxUint64)))
	}
	return api.Frame{From: lastNode, To: 0, Session: name(lastNode, mostLives, mostLives), Turn: lastTurn - 1, Parts: l}
}

// fewParts are lists of parts that may be, with no parts, one, and some.
func fewParts() [][]api.Part {
	l := [][]api.Part{
		nil,
		{},
		{items(whole())},
		{items(rng("a", "c"))},
		{{Kind: 2, Range: whole(), Entries: []api.Entry{}}},
		{{Kind: 1, Range: whole(), Entries: []api.Entry{}}},
		{items(rng("a", "c"), under("a", "a\x00", "aa", "b", "b\xFF")...)},
		{items(rng("", "a"), dead("", greatest, lastNode))},
		{reply(whole(), entry("", 1, 0, ""))},
		{reply(rng("", "\x00"), entry("", 1, 0, "\x00"))},
		{print(rng("", "\x00"), tally(1, 1, 1)), print(rng("\x00", "\x00\x00"), tally(0, 0, 0)), print(from(highest), tally(1, 2, 3))},
		{items(rng(highest[:15], highest), under(highest[:15])...), reply(from(highest), entry(highest, greatest, lastNode, longValue))},
		{print(rng(lowest, longKey), tally(255, 1<<63, 1<<32)), items(rng(longKey, highest), entry(longKey, 1, 0, longValue), dead(longKey[:15]+"l", greatest, 0))},
		{reply(rng("a", "b"), at("a")), print(rng("b", "c"), tally(3, 4, 5)), items(rng("d", "e")), reply(from("x"), under("x", "y", "z")...)},
		prints(2),
		single(3),
	}
	for _, count := range []int{1, 127, 128, mostEntries} {
		for _, lane := range []uint64{0, 1, 0x0102030405060708, 1 << 63, math.MaxUint64} {
			l = append(l, []api.Part{print(whole(), tally(count, lane, 0))}, []api.Part{print(rng("a", "b"), tally(count, 0, lane))})
		}
	}
	for size := range 17 {
		key := strings.Repeat("k", size)
		l = append(l, []api.Part{items(rng(key, "l"+key[min(size, 1):]), at(key))}, []api.Part{print(from(key), tally(1, 0, 0))})
	}
	for size := range 33 {
		l = append(l, []api.Part{reply(from("a"), entry("b", 1, 2, strings.Repeat("\xFF", size)))})
	}
	for _, n := range stretch(greatest) {
		l = append(l, []api.Part{reply(whole(), dead("a", n, 1), entry("b", n, 6, "x"))})
	}
	return l
}

// stretch are the numbers around those at which a number's bytes grow by one, from 1 up to most.
func stretch(most int) []int {
	l := []int{1, 2}
	for n := 128; n < most; n *= 128 {
		l = append(l, n-1, n, n+1)
	}
	return append(l, most-1, most)
}

// fewFrames are frames that may be: of the edges of each number, and with each of those lists of parts.
func fewFrames() []api.Frame {
	l := []api.Frame{firstRow(), secondRow(), thirdRow()}
	opening := []api.Part{print(whole(), tally(0, 0, 0))}
	for a := range lastNode + 1 {
		for b := range lastNode + 1 {
			if a != b {
				l = append(l,
					api.Frame{From: a, To: b, Session: name(a, 1, 1), Parts: opening},
					api.Frame{From: a, To: b, Session: name(b, mostLives, mostLives), Turn: lastTurn},
				)
			}
		}
	}
	for _, n := range stretch(mostLives) {
		l = append(l,
			api.Frame{From: 0, To: lastNode, Session: name(lastNode, n, 1), Turn: 1},
			api.Frame{From: lastNode, To: 0, Session: name(lastNode, mostLives, n), Parts: opening},
		)
	}
	for turn := range lastTurn {
		l = append(l, said(turn+1))
	}
	for i, p := range fewParts() {
		l = append(l, said(i%lastTurn+1, p...))
	}
	return append(l, said(0, print(whole(), tally(mostEntries, math.MaxUint64, math.MaxUint64))))
}

// goodFrames are those, and frames with many parts and entries, up to as many as may be.
func goodFrames() []api.Frame {
	l := append(fewFrames(), widest())
	for _, n := range []int{127, 128, mostEntries - 1, mostEntries} {
		l = append(l, said(n%lastTurn+1, single(n)...), said(2, items(whole(), under(numbered(n)...)...)), said(3, reply(from("k"), under(wide(n)...)...)))
	}
	for _, n := range []int{127, 128, mostEntries + 1, mostParts - 1, mostParts} {
		l = append(l, said(n%lastTurn+1, prints(n)...))
	}
	return l
}

// copied is a frame with lists of its own.
func copied(f api.Frame) api.Frame {
	f.Parts = slices.Clone(f.Parts)
	for i, p := range f.Parts {
		f.Parts[i].Entries = slices.Clone(p.Entries)
	}
	return f
}

// alike tells whether two frames are the same in all; lists without elements are the same.
func alike(a, b api.Frame) bool {
	same := func(p, q api.Part) bool {
		return p.Kind == q.Kind && p.Range == q.Range && p.Tally == q.Tally && slices.Equal(p.Entries, q.Entries)
	}
	return a.From == b.From && a.To == b.To && a.Session == b.Session && a.Turn == b.Turn && slices.EqualFunc(a.Parts, b.Parts, same)
}

func encode(t *testing.T, f api.Frame) string {
	t.Helper()
	b, e := wire.Encode(f)
	if e != api.OK {
		t.Fatalf("Encode(%s): %d", brief(f), e)
	}
	return string(b)
}

func decode(t *testing.T, b string) api.Frame {
	t.Helper()
	f, e := wire.Decode([]byte(b))
	if e != api.OK {
		t.Fatalf("Decode(%s): %d", short(b), e)
	}
	return f
}

// refused asks for ErrFrame, and the zero Frame beside it.
func refused(t *testing.T, what, b string) {
	t.Helper()
	if f, e := wire.Decode([]byte(b)); !alike(f, api.Frame{}) || e != api.ErrFrame {
		t.Errorf("%s: Decode(%s): %s, %d, want ErrFrame", what, short(b), brief(f), e)
	}
}

// short is what a failed test tells of many bytes.
func short(b string) string {
	if len(b) > 60 {
		return fmt.Sprintf("%q and %d more", b[:60], len(b)-60)
	}
	return fmt.Sprintf("%q", b)
}

// brief is what a failed test tells of a frame; keys and values may be any bytes.
func brief(f api.Frame) string {
	text := fmt.Sprintf("%+v", f)
	return fmt.Sprintf("%q", text[:min(len(text), 300)])
}
