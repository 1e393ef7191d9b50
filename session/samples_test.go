package session_test

import (
	"fmt"
	"math"
	"slices"
	"strconv"
	"strings"
	"testing"

	"tideline/api"
	"tideline/frame"
	"tideline/session"
	"tideline/store"
)

const (
	most      = 256     // keys that a store holds, and entries of all parts together
	mostParts = 768     // of a frame
	mostTalks = 16      // sessions of a desk
	lastTurn  = 63      // turns are numbered from 0 on
	lastTick  = 1 << 40 // of a desk's clock
	greatest  = 1 << 40 // the greatest Counter that may be
	mostLives = 1 << 20 // and as many sessions in a life
)

var (
	highest      = strings.Repeat("\xFF", 16) // no key is above it
	longKey      = strings.Repeat("k", 16)
	tooLongKey   = strings.Repeat("k", 17)
	longValue    = strings.Repeat("v", 32)
	tooLongValue = strings.Repeat("v", 33)
)

func whole() api.Range { return api.Range{Open: true} }

func rng(lo, hi string) api.Range { return api.Range{Lo: lo, Hi: hi} }

func from(lo string) api.Range { return api.Range{Lo: lo, Open: true} }

func entry(key string, counter, node int, value string) api.Entry {
	return api.Entry{Key: key, Version: api.Version{Counter: counter, Node: node}, Value: value}
}

func dead(key string, counter, node int) api.Entry {
	return api.Entry{Key: key, Version: api.Version{Counter: counter, Node: node}, Dead: true}
}

func at(key string) api.Entry { return entry(key, 1, 0, "") }

func list(l ...api.Entry) []api.Entry { return l }

func parts(l ...api.Part) []api.Part { return l }

func tally(count int, lane0, lane1 uint64) api.Tally {
	return api.Tally{Count: count, Sum: api.Sum{lane0, lane1}}
}

func print(r api.Range, t api.Tally) api.Part { return api.Part{Kind: 1, Range: r, Tally: t} }

func items(r api.Range, l ...api.Entry) api.Part { return api.Part{Kind: 2, Range: r, Entries: l} }

func reply(r api.Range, l ...api.Entry) api.Part { return api.Part{Kind: 3, Range: r, Entries: l} }

// other is a Print that no store's map comes to, so that it is answered.
func other(r api.Range) api.Part { return print(r, tally(1, 1, 1)) }

func name(opener, life, number int) api.Name {
	return api.Name{Opener: opener, Life: life, Number: number}
}

func config(branch, leaf, wait, tries int) api.Config {
	return api.Config{Branch: branch, Leaf: leaf, Wait: wait, Tries: tries}
}

// plainConfig is that of the chapter's examples.
func plainConfig() api.Config { return config(2, 1, 3, 1) }

// sampleConfigs are at the edges of each of their fields, and within.
func sampleConfigs() []api.Config {
	return []api.Config{
		config(2, 1, 1, 0), config(16, 32, 100, 20), config(2, 32, 1, 20), config(16, 1, 100, 0),
		config(2, 1, 3, 1), config(3, 2, 5, 2), config(5, 7, 2, 3), config(4, 4, 1, 1),
	}
}

// spoiltConfigs have one field each that may not be, or several.
func spoiltConfigs() []api.Config {
	var l []api.Config
	for _, n := range outside(2, 16) {
		l = append(l, config(n, 1, 1, 0))
	}
	for _, n := range outside(1, 32) {
		l = append(l, config(2, n, 1, 0))
	}
	for _, n := range outside(1, 100) {
		l = append(l, config(2, 1, n, 0))
	}
	for _, n := range outside(0, 20) {
		l = append(l, config(2, 1, 1, n))
	}
	return append(l, api.Config{}, config(1, 0, 0, -1), config(17, 33, 101, 21))
}

// oddKeys are keys, rising: the empty one, some that begin others, those at the edges, and such as lie side by side.
func oddKeys() []string {
	return []string{"", "\x00", "\x00\x00", "A", "a", "a\x00", "aa", "ab", "a\xFF", "b", "ba", longKey, "ä", "\xFF", "\xFF\x00", "\xFF\xFF", highest}
}

// numbered are n keys, rising, from the first-th one on.
func numbered(first, n int) []string {
	var l []string
	for i := first; i < first+n; i++ {
		l = append(l, "k"+string([]byte{byte(i >> 8), byte(i)}))
	}
	return l
}

// under are entries of these keys, by turns of each node, every third one dead; the Counters are mixed, from more on.
func under(keys []string, more int) []api.Entry {
	var l []api.Entry
	for i, key := range keys {
		counter := i*7%len(keys) + 1 + more
		if i%3 == 2 {
			l = append(l, dead(key, counter, i%8))
		} else {
			l = append(l, entry(key, counter, i%8, "v"+strconv.Itoa(i)))
		}
	}
	return l
}

// many are n entries.
func many(n int) []api.Entry { return under(numbered(0, n), 0) }

// sampleMaps are maps of all sorts: of no entry, of one, of few, of as many as a store holds.
func sampleMaps() [][]api.Entry {
	return [][]api.Entry{
		nil,
		{entry("", 1, 1, "")},
		{dead("m", 7, 3)},
		{entry(highest, greatest, 7, longValue)},
		{entry("a", 1, 0, ""), entry("b", 2, 0, "")},
		under(oddKeys(), 0),
		many(2),
		many(33),
		many(most - 1),
		many(most),
	}
}

func clockOf(l []api.Entry) int {
	clock := 0
	for _, e := range l {
		clock = max(clock, e.Version.Counter)
	}
	return clock
}

// holding is a node's store that holds these entries, and whose clock is the greatest of their Counters.
func holding(t *testing.T, node int, l []api.Entry) *store.Store {
	t.Helper()
	s, e := store.Load(node, clockOf(l), l)
	if e != api.OK {
		t.Fatalf("Load of %d entries: %d", len(l), e)
	}
	return s
}

func heldBy(t *testing.T, s *store.Store) []api.Entry {
	t.Helper()
	held, e := s.All(whole())
	if e != api.OK {
		t.Fatal(e)
	}
	return slices.Collect(held)
}

// isAs asks that the store is that node's, with these entries and that clock.
func isAs(t *testing.T, what string, s *store.Store, node, clock int, l []api.Entry) {
	t.Helper()
	if s.Node() != node || s.Clock() != clock || s.Len() != len(l) {
		t.Fatalf("%s: node %d, clock %d, %d entries; want %d, %d, %d", what, s.Node(), s.Clock(), s.Len(), node, clock, len(l))
	}
	if now := heldBy(t, s); !slices.Equal(now, l) {
		t.Fatalf("%s: the map is %s, want %s", what, quoted(now), quoted(l))
	}
}

// untouched holds against a call that a later one could tell that it was made, by the store's joins too.
func untouched(t *testing.T, what string, s *store.Store, call func()) {
	t.Helper()
	node, clock, held, joins := s.Node(), s.Clock(), heldBy(t, s), s.Joins()
	call()
	isAs(t, what, s, node, clock, held)
	if s.Joins() != joins {
		t.Fatalf("%s: %d joins, there were %d", what, s.Joins(), joins)
	}
}

// desk is a desk of that store, in its first life.
func desk(t *testing.T, s *store.Store, c api.Config) *session.Desk {
	t.Helper()
	d, e := session.New(s, c, 1)
	if d == nil || e != api.OK {
		t.Fatalf("New(%v): %d", c, e)
	}
	return d
}

// isTold asks that the desk tells of just these sessions, and of that tick.
func isTold(t *testing.T, what string, d *session.Desk, now int, want ...api.Talk) {
	t.Helper()
	if d.Now() != now {
		t.Fatalf("%s: now is %d, want %d", what, d.Now(), now)
	}
	if l := d.Talks(); !slices.Equal(l, want) {
		t.Fatalf("%s: %+v, want %+v", what, l, want)
	}
}

// quiet holds against a call that the desk tells something else of itself behind it, or that its store is another one.
func quiet(t *testing.T, what string, d *session.Desk, s *store.Store, call func()) {
	t.Helper()
	now, l := d.Now(), d.Talks()
	untouched(t, what, s, call)
	isTold(t, what, d, now, l...)
}

func opened(t *testing.T, d *session.Desk, peer int) api.Frame {
	t.Helper()
	f, e := d.Open(peer)
	if e != api.OK {
		t.Fatalf("%+v: Open(%d): %d", d.Talks(), peer, e)
	}
	return f
}

// heard is what the desk answers to a frame that it takes without an error.
func heard(t *testing.T, d *session.Desk, f api.Frame) (api.Frame, bool, api.Heard) {
	t.Helper()
	answer, is, h, e := d.Hear(f)
	if e != api.OK {
		t.Fatalf("%+v: Hear(%s): %d", d.Talks(), brief(f), e)
	}
	if !is && !frame.Same(answer, api.Frame{}) {
		t.Fatalf("%+v: Hear(%s): none, but %s", d.Talks(), brief(f), brief(answer))
	}
	return answer, is, h
}

// answered is what the desk answers to a frame to which there must be an answer.
func answered(t *testing.T, d *session.Desk, f api.Frame) api.Frame {
	t.Helper()
	answer, is, _ := heard(t, d, f)
	if !is {
		t.Fatalf("%+v: Hear(%s): no answer", d.Talks(), brief(f))
	}
	return answer
}

func openRefuses(t *testing.T, what string, d *session.Desk, s *store.Store, peer int, want api.Errno) {
	t.Helper()
	quiet(t, what, d, s, func() {
		f, e := d.Open(peer)
		if !frame.Same(f, api.Frame{}) || e != want {
			t.Fatalf("%s: Open(%d): %s, %d, want %d", what, peer, brief(f), e, want)
		}
	})
}

func hearRefuses(t *testing.T, what string, d *session.Desk, s *store.Store, f api.Frame, want api.Errno) {
	t.Helper()
	quiet(t, what, d, s, func() {
		answer, is, h, e := d.Hear(f)
		if !frame.Same(answer, api.Frame{}) || is || h != (api.Heard{}) || e != want {
			t.Fatalf("%s: Hear(%s): %s, %v, %v, %d, want %d", what, brief(f), brief(answer), is, h, e, want)
		}
	})
}

// ticks lets n ticks go by at which nothing is due.
func ticks(t *testing.T, d *session.Desk, n int) {
	t.Helper()
	for range n {
		if l, lost := d.Tick(); len(l) > 0 || len(lost) > 0 {
			t.Fatalf("tick %d: %s, %v", d.Now(), briefly(l), lost)
		}
	}
}

// tickTells lets a tick go by, at which just these frames go out again, and the sessions of just these names are given up.
func tickTells(t *testing.T, d *session.Desk, again []api.Frame, lost ...api.Name) {
	t.Helper()
	l, names := d.Tick()
	if !slices.EqualFunc(l, again, frame.Same) || !slices.Equal(names, lost) {
		t.Fatalf("tick %d: %s, %v, want %s, %v", d.Now(), briefly(l), names, briefly(again), lost)
	}
}

func frames(l ...api.Frame) []api.Frame { return l }

// first is a frame of turn 0 that goes to node.
func first(n api.Name, node int, p api.Part) api.Frame {
	return api.Frame{From: n.Opener, To: node, Session: n, Parts: parts(p)}
}

// agreed is a Print of what the store comes to, to which its side says nothing: a frame that has it alone is answered by the closing one.
func agreed(t *testing.T, s *store.Store) api.Part {
	t.Helper()
	all, e := s.Clone().Fold(whole())
	if e != api.OK {
		t.Fatal(e)
	}
	return print(whole(), all)
}

// agreeing is such a frame of turn 0, to the store's node: a session that it begins is closed there at once.
func agreeing(t *testing.T, n api.Name, s *store.Store) api.Frame {
	t.Helper()
	return first(n, s.Node(), agreed(t, s))
}

// back is a frame that answers f, with these parts.
func back(f api.Frame, l ...api.Part) api.Frame {
	return api.Frame{From: f.To, To: f.From, Session: f.Session, Turn: f.Turn + 1, Parts: l}
}

// turned is f with another turn and these parts, from the same side.
func turned(f api.Frame, turn int, l ...api.Part) api.Frame {
	f.Turn, f.Parts = turn, l
	return f
}

// upTo has the session of the desk's frame f come to that turn, by Prints that it does not agree with; it tells the frame of that turn.
func upTo(t *testing.T, d *session.Desk, f api.Frame, turn int) api.Frame {
	t.Helper()
	for f.Turn < turn {
		f = answered(t, d, back(f, other(whole())))
	}
	if f.Turn != turn {
		t.Fatalf("turn %d, want %d", f.Turn, turn)
	}
	return f
}

// tooMuch are MaxParts parts to which a side that holds many(4), or more, would have to say one more than that, with Branch 2 and Leaf 1; it has an entry to take, too.
func tooMuch() []api.Part {
	keys := numbered(0, mostParts+3)
	l := parts(other(rng("", keys[2])), other(rng(keys[2], keys[4])))
	for i := 4; len(l) < mostParts-1; i++ {
		l = append(l, other(rng(keys[i], keys[i+1])))
	}
	return append(l, reply(from("z"), at("z")))
}

// outside are numbers around those from lo to hi, none of them among these.
func outside(lo, hi int) []int {
	return []int{lo - 1, lo - 2, lo - 1000, math.MinInt32, math.MinInt, math.MinInt + 1, hi + 1, hi + 2, hi + 1000, math.MaxInt32, math.MaxInt - 1, math.MaxInt}
}

// quoted is what a failed test tells of what has keys and values, which may be any bytes.
func quoted(x any) string { return fmt.Sprintf("%q", fmt.Sprint(x)) }

// brief is what it tells of a frame.
func brief(f api.Frame) string {
	text := fmt.Sprintf("%+v", f)
	return fmt.Sprintf("a frame of %d parts: %q", len(f.Parts), text[:min(len(text), 300)])
}

// briefly is what it tells of frames.
func briefly(l []api.Frame) string {
	var text []string
	for _, f := range l {
		text = append(text, brief(f))
	}
	return fmt.Sprintf("%d frames [%s]", len(l), strings.Join(text, "; "))
}
