package recon_test

import (
	"fmt"
	"math"
	"slices"
	"strconv"
	"strings"
	"testing"

	"tideline/api"
	"tideline/frame"
	"tideline/recon"
	"tideline/store"
)

const (
	most      = 256     // keys that a store holds, and entries of all parts together
	mostParts = 768     // of a frame
	lastTurn  = 63      // turns are numbered from 0 on
	greatest  = 1 << 40 // the greatest Counter that may be
	mostLives = 1 << 20 // and as many sessions in a life
)

var (
	lowest       = strings.Repeat("\x00", 16)
	highest      = strings.Repeat("\xFF", 16) // no key is above it
	longKey      = strings.Repeat("k", 16)
	tooLongKey   = strings.Repeat("k", 17)
	longValue    = strings.Repeat("v", 32)
	tooLongValue = strings.Repeat("v", 33)
)

func whole() api.Range { return api.Range{Open: true} }

func rng(lo, hi string) api.Range { return api.Range{Lo: lo, Hi: hi} }

func from(lo string) api.Range { return api.Range{Lo: lo, Open: true} }

func openTo(lo, hi string) api.Range { return api.Range{Lo: lo, Hi: hi, Open: true} }

func entry(key string, counter, node int, value string) api.Entry {
	return api.Entry{Key: key, Version: api.Version{Counter: counter, Node: node}, Value: value}
}

func dead(key string, counter, node int) api.Entry {
	return api.Entry{Key: key, Version: api.Version{Counter: counter, Node: node}, Dead: true}
}

func at(key string) api.Entry { return entry(key, 1, 0, "") }

func list(l ...api.Entry) []api.Entry { return l }

func parts(l ...api.Part) []api.Part { return l }

func tally(count int, lane0, lane1 uint64) api.Tally {
	return api.Tally{Count: count, Sum: api.Sum{lane0, lane1}}
}

func print(r api.Range, t api.Tally) api.Part { return api.Part{Kind: 1, Range: r, Tally: t} }

func items(r api.Range, l ...api.Entry) api.Part { return api.Part{Kind: 2, Range: r, Entries: l} }

func reply(r api.Range, l ...api.Entry) api.Part { return api.Part{Kind: 3, Range: r, Entries: l} }

// other is a Print that no store's map comes to, so that it is answered.
func other(r api.Range) api.Part { return print(r, tally(1, 1, 1)) }

func name(opener, life, number int) api.Name {
	return api.Name{Opener: opener, Life: life, Number: number}
}

func config(branch, leaf int) api.Config { return api.Config{Branch: branch, Leaf: leaf, Wait: 1} }

// sampleConfigs are at the edges of Branch and of Leaf, and within.
func sampleConfigs() []api.Config {
	return []api.Config{config(2, 1), config(16, 1), config(2, 32), config(16, 32), config(3, 2), config(5, 7)}
}

// ab are the entries of the stores of the chapter's examples: of node 0's, and of node 1's.
func ab() (a, b []api.Entry) {
	return list(entry("a", 1, 0, ""), entry("b", 2, 0, "")), list(entry("a", 1, 0, ""))
}

// oddKeys are keys, rising: the empty one, some that begin others, those at the edges, and such as lie side by side.
func oddKeys() []string {
	return []string{"", "\x00", "\x00\x00", lowest, "A", "a", "a\x00", "aa", "ab", "a\xFF", "b", "ba", longKey, "ä", "\xFF", "\xFF\x00", "\xFF\xFF", highest}
}

// numbered are n keys, rising, from the first-th one on.
func numbered(first, n int) []string {
	var l []string
	for i := first; i < first+n; i++ {
		l = append(l, "k"+string([]byte{byte(i >> 8), byte(i)}))
	}
	return l
}

// under are entries of these keys, by turns of each node, every third one dead; the Counters are mixed, from more on.
func under(keys []string, more int) []api.Entry {
	var l []api.Entry
	for i, key := range keys {
		counter := i*7%len(keys) + 1 + more
		if i%3 == 2 {
			l = append(l, dead(key, counter, i%8))
		} else {
			l = append(l, entry(key, counter, i%8, "v"+strconv.Itoa(i)))
		}
	}
	return l
}

// many are n entries.
func many(n int) []api.Entry { return under(numbered(0, n), 0) }

// sampleMaps are maps of all sorts: of no entry, of one, of few, of as many as a store holds.
func sampleMaps() [][]api.Entry {
	a, b := ab()
	return [][]api.Entry{
		nil,
		{entry("", 1, 1, "")},
		{dead("m", 7, 3)},
		{entry(highest, greatest, 7, longValue)},
		a,
		b,
		under(oddKeys(), 0),
		many(2),
		many(16),
		many(33),
		many(most - 1),
		many(most),
	}
}

func byKey(l []api.Entry) []api.Entry {
	slices.SortFunc(l, func(a, b api.Entry) int { return strings.Compare(a.Key, b.Key) })
	return l
}

func clockOf(l []api.Entry) int {
	clock := 0
	for _, e := range l {
		clock = max(clock, e.Version.Counter)
	}
	return clock
}

// holding is a node's store that holds these entries, and whose clock is the greatest of their Counters.
func holding(t *testing.T, node int, l []api.Entry) *store.Store {
	t.Helper()
	s, e := store.Load(node, clockOf(l), l)
	if e != api.OK {
		t.Fatalf("Load of %d entries: %d", len(l), e)
	}
	return s
}

func heldBy(t *testing.T, s *store.Store) []api.Entry {
	t.Helper()
	held, e := s.All(whole())
	if e != api.OK {
		t.Fatal(e)
	}
	return slices.Collect(held)
}

// isAs asks that the store is that node's, with these entries and that clock.
func isAs(t *testing.T, what string, s *store.Store, node, clock int, l []api.Entry) {
	t.Helper()
	if s.Node() != node || s.Clock() != clock || s.Len() != len(l) {
		t.Fatalf("%s: node %d, clock %d, %d entries; want %d, %d, %d", what, s.Node(), s.Clock(), s.Len(), node, clock, len(l))
	}
	if now := heldBy(t, s); !slices.Equal(now, l) {
		t.Fatalf("%s: the map is %s, want %s", what, quoted(now), quoted(l))
	}
}

// untouched holds against a call that a later one could tell that it was made, by the store's joins too.
func untouched(t *testing.T, what string, s *store.Store, call func()) {
	t.Helper()
	node, clock, held, joins := s.Node(), s.Clock(), heldBy(t, s), s.Joins()
	call()
	isAs(t, what, s, node, clock, held)
	if s.Joins() != joins {
		t.Fatalf("%s: %d joins, there were %d", what, s.Joins(), joins)
	}
}

// seen is all that a talk tells of itself.
type seen struct {
	session      api.Name
	peer         int
	last         api.Frame
	over, closed bool
}

func look(x *recon.Talk) seen {
	return seen{x.Session(), x.Peer(), x.Last(), x.Over(), x.Closed()}
}

func isSeen(t *testing.T, what string, x *recon.Talk, want seen) {
	t.Helper()
	now := look(x)
	if now.session != want.session || now.peer != want.peer || now.over != want.over || now.closed != want.closed || !frame.Same(now.last, want.last) {
		t.Fatalf("%s: the talk is %s, want %s", what, told(now), told(want))
	}
}

// quiet holds against a call that the talk, or its store, is another one behind it.
func quiet(t *testing.T, what string, x *recon.Talk, s *store.Store, call func()) {
	t.Helper()
	was := look(x)
	untouched(t, what, s, call)
	isSeen(t, what, x, was)
}

func opened(t *testing.T, s *store.Store, c api.Config, peer, life, number int) (*recon.Talk, api.Frame) {
	t.Helper()
	x, f, e := recon.Start(s, c, peer, life, number)
	if x == nil || e != api.OK {
		t.Fatalf("node %d: Start(%v, %d, %d, %d): %d", s.Node(), c, peer, life, number, e)
	}
	return x, f
}

func joined(t *testing.T, s *store.Store, c api.Config, f api.Frame) (*recon.Talk, api.Frame) {
	t.Helper()
	x, answer, h, e := recon.Join(s, c, f)
	if x == nil || h != (api.Heard{}) || e != api.OK {
		t.Fatalf("node %d: Join(%v, %s): %v, %d", s.Node(), c, brief(f), h, e)
	}
	return x, answer
}

// heard is what the talk answers to a frame that it takes without an error.
func heard(t *testing.T, x *recon.Talk, f api.Frame) (api.Frame, bool, api.Heard) {
	t.Helper()
	answer, is, h, e := x.Hear(f)
	if e != api.OK {
		t.Fatalf("%s: Hear(%s): %d", told(look(x)), brief(f), e)
	}
	if !is && !frame.Same(answer, api.Frame{}) {
		t.Fatalf("%s: Hear(%s): none, but %s", told(look(x)), brief(f), brief(answer))
	}
	return answer, is, h
}

func hearRefuses(t *testing.T, what string, x *recon.Talk, s *store.Store, f api.Frame, want api.Errno) {
	t.Helper()
	quiet(t, what, x, s, func() {
		answer, is, h, e := x.Hear(f)
		if !frame.Same(answer, api.Frame{}) || is || h != (api.Heard{}) || e != want {
			t.Fatalf("%s: Hear(%s): %s, %v, %v, %d, want %d", what, brief(f), brief(answer), is, h, e, want)
		}
	})
}

func startRefuses(t *testing.T, what string, s *store.Store, c api.Config, peer, life, number int, want api.Errno) {
	t.Helper()
	untouched(t, what, s, func() {
		x, f, e := recon.Start(s, c, peer, life, number)
		if x != nil || !frame.Same(f, api.Frame{}) || e != want {
			t.Fatalf("%s: node %d: Start(%v, %d, %d, %d): %v, %s, %d, want %d", what, s.Node(), c, peer, life, number, x != nil, brief(f), e, want)
		}
	})
}

func joinRefuses(t *testing.T, what string, s *store.Store, c api.Config, f api.Frame, want api.Errno) {
	t.Helper()
	untouched(t, what, s, func() {
		x, answer, h, e := recon.Join(s, c, f)
		if x != nil || !frame.Same(answer, api.Frame{}) || h != (api.Heard{}) || e != want {
			t.Fatalf("%s: node %d: Join(%v, %s): %v, %s, %v, %d, want %d", what, s.Node(), c, brief(f), x != nil, brief(answer), h, e, want)
		}
	})
}

// to is a frame of that turn that goes to the talk from its peer, as the peer might say it.
func to(x *recon.Talk, turn int, l ...api.Part) api.Frame {
	own := x.Last()
	return api.Frame{From: own.To, To: own.From, Session: own.Session, Turn: turn, Parts: l}
}

// next is the frame that a talk that is not over awaits, with these parts.
func next(x *recon.Talk, l ...api.Part) api.Frame { return to(x, x.Last().Turn+1, l...) }

// upTo has the talk come to that turn, by Prints that it does not agree with.
func upTo(t *testing.T, x *recon.Talk, turn int) {
	t.Helper()
	for x.Last().Turn < turn {
		was := x.Last().Turn
		answer, is, h := heard(t, x, next(x, other(whole())))
		if !is || answer.Turn != was+2 || h != (api.Heard{}) {
			t.Fatalf("%s: %v, %v", brief(answer), is, h)
		}
	}
	if x.Last().Turn != turn {
		t.Fatalf("turn %d, want %d", x.Last().Turn, turn)
	}
}

// side is a talk with its store.
type side struct {
	what string
	x    *recon.Talk
	s    *store.Store
}

// bothSides are a talk of the opener, node 3, and one of its peer, node 5, each with a store of its own that holds these entries.
func bothSides(t *testing.T, c api.Config, l []api.Entry) (opener, peer side) {
	t.Helper()
	s3, s5 := holding(t, 3, l), holding(t, 5, l)
	x, _ := opened(t, s3, c, 5, 2, 7)
	first := api.Frame{From: 3, To: 5, Session: name(3, 2, 7), Parts: parts(other(whole()))}
	y, _ := joined(t, s5, c, first)
	return side{"the opener", x, s3}, side{"the peer", y, s5}
}

// outside are numbers around those from lo to hi, none of them among these.
func outside(lo, hi int) []int {
	return []int{lo - 1, lo - 2, lo - 1000, math.MinInt32, math.MinInt, math.MinInt + 1, hi + 1, hi + 2, hi + 1000, math.MaxInt32, math.MaxInt - 1, math.MaxInt}
}

// quoted is what a failed test tells of what has keys and values, which may be any bytes.
func quoted(x any) string { return fmt.Sprintf("%q", fmt.Sprint(x)) }

// brief is what it tells of a frame.
func brief(f api.Frame) string {
	text := fmt.Sprintf("%+v", f)
	return fmt.Sprintf("a frame of %d parts: %q", len(f.Parts), text[:min(len(text), 400)])
}

// told is what it tells of a talk.
func told(x seen) string {
	return fmt.Sprintf("{%v, peer %d, over %v, closed %v, last %s}", x.session, x.peer, x.over, x.closed, brief(x.last))
}
