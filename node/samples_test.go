package node_test

import (
	"fmt"
	"math"
	"slices"
	"strconv"
	"strings"
	"testing"

	"tideline/api"
	"tideline/frame"
	"tideline/node"
	"tideline/tally"
	"tideline/wire"
)

const (
	most      = 256     // keys that a node holds, and entries of all parts together
	mostParts = 768     // of a frame
	mostTalks = 16      // sessions of a node
	lastTurn  = 63      // turns are numbered from 0 on
	greatest  = 1 << 40 // the greatest Counter that may be
	mostLives = 1 << 20 // and as many sessions in a life
)

var (
	highest      = strings.Repeat("\xFF", 16) // no key is above it
	longKey      = strings.Repeat("k", 16)
	tooLongKey   = strings.Repeat("k", 17)
	longValue    = strings.Repeat("v", 32)
	tooLongValue = strings.Repeat("v", 33)
)

func whole() api.Range { return api.Range{Open: true} }

func rng(lo, hi string) api.Range { return api.Range{Lo: lo, Hi: hi} }

func from(lo string) api.Range { return api.Range{Lo: lo, Open: true} }

func entry(key string, counter, node int, value string) api.Entry {
	return api.Entry{Key: key, Version: api.Version{Counter: counter, Node: node}, Value: value}
}

func dead(key string, counter, node int) api.Entry {
	return api.Entry{Key: key, Version: api.Version{Counter: counter, Node: node}, Dead: true}
}

func at(key string) api.Entry { return entry(key, 1, 0, "") }

func list(l ...api.Entry) []api.Entry { return l }

func parts(l ...api.Part) []api.Part { return l }

func tallied(count int, lane0, lane1 uint64) api.Tally {
	return api.Tally{Count: count, Sum: api.Sum{lane0, lane1}}
}

func print(r api.Range, t api.Tally) api.Part { return api.Part{Kind: 1, Range: r, Tally: t} }

func items(r api.Range, l ...api.Entry) api.Part { return api.Part{Kind: 2, Range: r, Entries: l} }

func reply(r api.Range, l ...api.Entry) api.Part { return api.Part{Kind: 3, Range: r, Entries: l} }

// other is a Print that no map comes to, so that it is answered.
func other(r api.Range) api.Part { return print(r, tallied(1, 1, 1)) }

func name(opener, life, number int) api.Name {
	return api.Name{Opener: opener, Life: life, Number: number}
}

func config(branch, leaf, wait, tries int) api.Config {
	return api.Config{Branch: branch, Leaf: leaf, Wait: wait, Tries: tries}
}

// plainConfig has much be said of few entries, and little waited for.
func plainConfig() api.Config { return config(2, 1, 3, 1) }

// sampleConfigs are at the edges of each of their fields, and within.
func sampleConfigs() []api.Config {
	return []api.Config{
		config(2, 1, 1, 0), config(16, 32, 100, 20), config(2, 32, 1, 20), config(16, 1, 100, 0),
		config(2, 4, 3, 2), config(3, 2, 5, 2), config(5, 7, 2, 3),
	}
}

// spoiltConfigs have one field each that may not be, or several.
func spoiltConfigs() []api.Config {
	var l []api.Config
	for _, n := range outside(2, 16) {
		l = append(l, config(n, 1, 1, 0))
	}
	for _, n := range outside(1, 32) {
		l = append(l, config(2, n, 1, 0))
	}
	for _, n := range outside(1, 100) {
		l = append(l, config(2, 1, n, 0))
	}
	for _, n := range outside(0, 20) {
		l = append(l, config(2, 1, 1, n))
	}
	return append(l, api.Config{}, config(1, 0, 0, -1), config(17, 33, 101, 21))
}

// oddKeys are keys, rising: the empty one, some that begin others, those at the edges, and such as lie side by side.
func oddKeys() []string {
	return []string{"", "\x00", "\x00\x00", "A", "a", "a\x00", "aa", "ab", "a\xFF", "b", "ba", longKey, "ä", "\xFF", "\xFF\x00", "\xFF\xFF", highest}
}

// numbered are n keys, rising, from the first-th one on.
func numbered(first, n int) []string {
	var l []string
	for i := first; i < first+n; i++ {
		l = append(l, "k"+string([]byte{byte(i >> 8), byte(i)}))
	}
	return l
}

// under are entries of these keys, by turns of each node, every third one dead; the Counters are mixed, from more on.
func under(keys []string, more int) []api.Entry {
	var l []api.Entry
	for i, key := range keys {
		counter := i*7%len(keys) + 1 + more
		if i%3 == 2 {
			l = append(l, dead(key, counter, i%8))
		} else {
			l = append(l, entry(key, counter, i%8, "v"+strconv.Itoa(i)))
		}
	}
	return l
}

// many are n entries.
func many(n int) []api.Entry { return under(numbered(0, n), 0) }

// sampleMaps are maps of all sorts: of no entry, of one, of few, of as many as a node holds.
func sampleMaps() [][]api.Entry {
	return [][]api.Entry{
		nil,
		{entry("", 1, 1, "")},
		{dead("m", 7, 3)},
		{entry(highest, greatest, 7, longValue)},
		under(oddKeys(), 0),
		many(33),
		many(most - 1),
		many(most),
	}
}

// outside are numbers around those from lo to hi, none of them among these.
func outside(lo, hi int) []int {
	return []int{lo - 1, lo - 2, lo - 1000, math.MinInt32, math.MinInt, math.MinInt + 1, hi + 1, hi + 2, hi + 1000, math.MaxInt32, math.MaxInt - 1, math.MaxInt}
}

func made(t *testing.T, id int, c api.Config) *node.Node {
	t.Helper()
	n, e := node.New(id, c)
	if n == nil || e != api.OK {
		t.Fatalf("New(%d, %v): %d", id, c, e)
	}
	return n
}

// writes has the node write under these keys: every third one is deleted.
func writes(t *testing.T, n *node.Node, keys ...string) {
	t.Helper()
	for i, key := range keys {
		var e api.Errno
		if i%3 == 2 {
			_, e = n.Delete(key)
		} else {
			_, e = n.Put(key, "v"+strconv.Itoa(i))
		}
		if e != api.OK {
			t.Fatalf("%q: %d", key, e)
		}
	}
}

// feed has the node take these entries, by a session of its own that is closed then.
func feed(t *testing.T, n *node.Node, l []api.Entry) {
	t.Helper()
	if len(l) == 0 {
		return
	}
	for peer := range 8 {
		if _, data, e := n.Open(peer); e == api.OK {
			f := answered(t, n, back(frameOf(t, data), reply(whole(), l...)))
			if !frame.Closing(f) {
				t.Fatal(brief(f))
			}
			return
		}
	}
	t.Fatal("no peer")
}

// holding is a node that took these entries, and was started anew behind that.
func holding(t *testing.T, id int, c api.Config, l []api.Entry) *node.Node {
	t.Helper()
	n := made(t, id, c)
	feed(t, n, l)
	restart(t, n)
	if held := n.Map(); !slices.Equal(held, l) {
		t.Fatalf("%s, want %s", quoted(held), quoted(l))
	}
	return n
}

func restart(t *testing.T, n *node.Node) {
	t.Helper()
	if e := n.Crash(); e != api.OK {
		t.Fatalf("Crash: %d", e)
	}
	if e := n.Start(); e != api.OK {
		t.Fatalf("Start: %d", e)
	}
}

func bytesOf(t *testing.T, f api.Frame) []byte {
	t.Helper()
	data, e := wire.Encode(f)
	if e != api.OK {
		t.Fatalf("Encode(%s): %d", brief(f), e)
	}
	return data
}

func frameOf(t *testing.T, data []byte) api.Frame {
	t.Helper()
	f, e := wire.Decode(data)
	if e != api.OK {
		t.Fatalf("Decode(%x): %d", data, e)
	}
	return f
}

func opened(t *testing.T, n *node.Node, peer int) api.Frame {
	t.Helper()
	s, data, e := n.Open(peer)
	if e != api.OK {
		t.Fatalf("%+v: Open(%d): %d", n.Talks(), peer, e)
	}
	f := frameOf(t, data)
	if f.Session != s || f.To != peer || f.Turn != 0 {
		t.Fatalf("Open(%d): %v, %s", peer, s, brief(f))
	}
	return f
}

// heard is what the node answers to a frame that it takes without an error.
func heard(t *testing.T, n *node.Node, f api.Frame) (api.Frame, bool, api.Heard) {
	t.Helper()
	data, h, e := n.Deliver(bytesOf(t, f))
	if e != api.OK {
		t.Fatalf("%+v: Deliver(%s): %d", n.Talks(), brief(f), e)
	}
	if len(data) == 0 {
		return api.Frame{}, false, h
	}
	return frameOf(t, data), true, h
}

// answered is what the node answers to a frame to which there must be an answer.
func answered(t *testing.T, n *node.Node, f api.Frame) api.Frame {
	t.Helper()
	answer, is, _ := heard(t, n, f)
	if !is {
		t.Fatalf("%+v: Deliver(%s): no answer", n.Talks(), brief(f))
	}
	return answer
}

// unanswered hands the node a frame to which there must be no answer.
func unanswered(t *testing.T, n *node.Node, f api.Frame) api.Heard {
	t.Helper()
	answer, is, h := heard(t, n, f)
	if is {
		t.Fatalf("%+v: Deliver(%s): %s", n.Talks(), brief(f), brief(answer))
	}
	return h
}

// shot is all that a node tells of itself.
type shot struct {
	up    bool
	life  int
	held  []api.Entry
	talks []api.Talk
	k     api.Counters
	joins int
}

func shoot(n *node.Node) shot {
	return shot{n.Up(), n.Life(), n.Map(), n.Talks(), n.Counters(), n.Joins()}
}

func (s shot) is(o shot) bool {
	return s.up == o.up && s.life == o.life && slices.Equal(s.held, o.held) && slices.Equal(s.talks, o.talks) && s.k == o.k && s.joins == o.joins
}

// changes holds against a call that anything else was changed by it than counters, and these by another number.
func changes(t *testing.T, what string, n *node.Node, by api.Counters, call func()) {
	t.Helper()
	want := shoot(n)
	want.k = plus(want.k, by)
	call()
	if now := shoot(n); !now.is(want) {
		t.Fatalf("%s: %s, want %s", what, quoted(now), quoted(want))
	}
}

// counts asks that a call changes counters by these numbers.
func counts(t *testing.T, what string, n *node.Node, by api.Counters, call func()) {
	t.Helper()
	want := plus(n.Counters(), by)
	call()
	if now := n.Counters(); now != want {
		t.Fatalf("%s: %+v, want %+v", what, now, want)
	}
}

func plus(a, b api.Counters) api.Counters {
	return api.Counters{
		Sent: a.Sent + b.Sent, Again: a.Again + b.Again, Heard: a.Heard + b.Heard, Stale: a.Stale + b.Stale, Bad: a.Bad + b.Bad,
		Moved: a.Moved + b.Moved, Taken: a.Taken + b.Taken, Full: a.Full + b.Full, Closed: a.Closed + b.Closed, Lost: a.Lost + b.Lost,
	}
}

// refusals are what a Deliver counts that tells that error.
func refusals(e api.Errno) api.Counters {
	switch e {
	case api.ErrStale:
		return api.Counters{Stale: 1}
	case api.ErrFrame:
		return api.Counters{Bad: 1}
	}
	return api.Counters{}
}

// refusesBytes asks that these bytes are refused, and nothing is another one behind that but the counter of such.
func refusesBytes(t *testing.T, what string, n *node.Node, b []byte, want api.Errno) {
	t.Helper()
	changes(t, what, n, refusals(want), func() {
		if data, h, e := n.Deliver(b); len(data) != 0 || h != (api.Heard{}) || e != want {
			t.Fatalf("%s: %x, %v, %d, want %d", what, data, h, e, want)
		}
	})
}

func refuses(t *testing.T, what string, n *node.Node, f api.Frame, want api.Errno) {
	t.Helper()
	refusesBytes(t, what, n, bytesOf(t, f), want)
}

func openRefuses(t *testing.T, what string, n *node.Node, peer int, want api.Errno) {
	t.Helper()
	changes(t, what, n, api.Counters{}, func() {
		if s, data, e := n.Open(peer); s != (api.Name{}) || len(data) != 0 || e != want {
			t.Fatalf("%s: Open(%d): %v, %x, %d, want %d", what, peer, s, data, e, want)
		}
	})
}

// tick is what a tick tells, as frames.
func tick(t *testing.T, n *node.Node) []api.Frame {
	t.Helper()
	l, e := n.Tick()
	if e != api.OK {
		t.Fatalf("Tick: %d", e)
	}
	var all []api.Frame
	for _, data := range l {
		all = append(all, frameOf(t, data))
	}
	return all
}

// ticks lets so many ticks go by at which nothing is due.
func ticks(t *testing.T, n *node.Node, many int) {
	t.Helper()
	for i := range many {
		changes(t, "a tick at which nothing is due", n, api.Counters{}, func() {
			if l := tick(t, n); len(l) > 0 {
				t.Fatalf("%d: %s", i, briefly(l))
			}
		})
	}
}

// tickTells lets a tick go by at which just these frames go out again.
func tickTells(t *testing.T, n *node.Node, want ...api.Frame) {
	t.Helper()
	if l := tick(t, n); !slices.EqualFunc(l, want, frame.Same) {
		t.Fatalf("%s, want %s", briefly(l), briefly(want))
	}
}

// first is a frame of turn 0 that goes to that node.
func first(n api.Name, to int, p api.Part) api.Frame {
	return api.Frame{From: n.Opener, To: to, Session: n, Parts: parts(p)}
}

// agreed is a Print of what the node holds, to which it says nothing: a frame that has it alone is answered by the closing one.
func agreed(n *node.Node) api.Part { return print(whole(), tally.All(n.Map())) }

// back is a frame that answers f, with these parts.
func back(f api.Frame, l ...api.Part) api.Frame {
	return api.Frame{From: f.To, To: f.From, Session: f.Session, Turn: f.Turn + 1, Parts: l}
}

// upTo has the session of the node's frame f come to that turn, by Prints that it does not agree with; it tells the frame of that turn.
func upTo(t *testing.T, n *node.Node, f api.Frame, turn int) api.Frame {
	t.Helper()
	for f.Turn < turn {
		f = answered(t, n, back(f, other(whole())))
	}
	if f.Turn != turn {
		t.Fatalf("turn %d, want %d", f.Turn, turn)
	}
	return f
}

// tooMuch are MaxParts parts to which a node that holds many(4), or more, would have to say one more than that, with Branch 2 and Leaf 1; it has an entry to take, too.
func tooMuch() []api.Part {
	keys := numbered(0, mostParts+3)
	l := parts(other(rng("", keys[2])), other(rng(keys[2], keys[4])))
	for i := 4; len(l) < mostParts-1; i++ {
		l = append(l, other(rng(keys[i], keys[i+1])))
	}
	return append(l, reply(from("z"), at("z")))
}

// handOn hands a frame to the other node, and its answer back, until there is none; it tells all frames, that one with them.
func handOn(t *testing.T, f api.Frame, nodes map[int]*node.Node) []api.Frame {
	t.Helper()
	all := []api.Frame{f}
	for is := true; is; {
		if f, is, _ = heard(t, nodes[f.To], f); is {
			all = append(all, f)
		}
		if len(all) > lastTurn+1 {
			t.Fatal(briefly(all))
		}
	}
	return all
}

// moved are the entries in these frames.
func moved(l []api.Frame) int {
	count := 0
	for _, f := range l {
		count += frame.Entries(f)
	}
	return count
}

// quoted is what a failed test tells of what has keys and values, which may be any bytes; the beginning of it, where that is much.
func quoted(x any) string {
	text := fmt.Sprintf("%+v", x)
	return fmt.Sprintf("%q (%d bytes)", text[:min(len(text), 1000)], len(text))
}

// brief is what it tells of a frame.
func brief(f api.Frame) string {
	text := fmt.Sprintf("%+v", f)
	return fmt.Sprintf("a frame of %d parts: %q", len(f.Parts), text[:min(len(text), 300)])
}

// briefly is what it tells of frames.
func briefly(l []api.Frame) string {
	var text []string
	for _, f := range l {
		text = append(text, brief(f))
	}
	return fmt.Sprintf("%d frames [%s]", len(l), strings.Join(text, "; "))
}
