package world_test

import (
	"fmt"
	"math"
	"slices"
	"strconv"
	"strings"
	"testing"

	"tideline/api"
	"tideline/frame"
	"tideline/tally"
	"tideline/wire"
	"tideline/world"
)

// The document's limits, by its own words.
const (
	most      = 256     // keys that a node holds, dead ones too
	mostNodes = 8       // of a world
	mostTalks = 16      // sessions of a node
	room      = 512     // frames in a world's bag
	lastTurn  = 63      // turns are numbered from 0 on
	greatest  = 1 << 40 // the greatest Counter that may be
	mostLives = 1 << 20 // of a node, and as many sessions in a life
	kinds     = 17      // of commands: 1 to 17
)

var (
	highest      = strings.Repeat("\xFF", 16) // no key is above it
	longKey      = strings.Repeat("k", 16)
	tooLongKey   = strings.Repeat("k", 17)
	longValue    = strings.Repeat("v", 32)
	tooLongValue = strings.Repeat("v", 33)
)

func whole() api.Range { return api.Range{Open: true} }

func rng(lo, hi string) api.Range { return api.Range{Lo: lo, Hi: hi} }

func from(lo string) api.Range { return api.Range{Lo: lo, Open: true} }

func entry(key string, counter, node int, value string) api.Entry {
	return api.Entry{Key: key, Version: api.Version{Counter: counter, Node: node}, Value: value}
}

func dead(key string, counter, node int) api.Entry {
	return api.Entry{Key: key, Version: api.Version{Counter: counter, Node: node}, Dead: true}
}

func list(l ...api.Entry) []api.Entry { return l }

func name(opener, life, number int) api.Name {
	return api.Name{Opener: opener, Life: life, Number: number}
}

func config(branch, leaf, wait, tries int) api.Config {
	return api.Config{Branch: branch, Leaf: leaf, Wait: wait, Tries: tries}
}

// plainConfig has much be said of few entries, and little waited for; it is the chapter's.
func plainConfig() api.Config { return config(2, 1, 3, 1) }

// sampleConfigs are at the edges of each of their fields, and within.
func sampleConfigs() []api.Config {
	return []api.Config{
		config(2, 1, 1, 0), config(16, 32, 100, 20), config(2, 32, 1, 20), config(16, 1, 100, 0),
		plainConfig(), config(2, 4, 3, 2), config(3, 2, 5, 2), config(5, 7, 2, 3),
	}
}

// The commands.

func put(node int, key, value string) api.Op {
	return api.Op{Kind: api.OpPut, Node: node, Key: key, Value: value}
}
func remove(node int, key string) api.Op {
	return api.Op{Kind: api.OpDelete, Node: node, Key: key}
}
func get(node int, key string) api.Op     { return api.Op{Kind: api.OpGet, Node: node, Key: key} }
func scan(node int, r api.Range) api.Op   { return api.Op{Kind: api.OpScan, Node: node, Range: r} }
func fold(node int, r api.Range) api.Op   { return api.Op{Kind: api.OpFold, Node: node, Range: r} }
func open(node, peer int) api.Op          { return api.Op{Kind: api.OpOpen, Node: node, Peer: peer} }
func deliver(i int) api.Op                { return api.Op{Kind: api.OpDeliver, N: i} }
func drop(i int) api.Op                   { return api.Op{Kind: api.OpDrop, N: i} }
func double(i int) api.Op                 { return api.Op{Kind: api.OpDouble, N: i} }
func raw(node int, data string) api.Op    { return api.Op{Kind: api.OpRaw, Node: node, Value: data} }
func tick(node int) api.Op                { return api.Op{Kind: api.OpTick, Node: node} }
func crash(node int) api.Op               { return api.Op{Kind: api.OpCrash, Node: node} }
func start(node int) api.Op               { return api.Op{Kind: api.OpStart, Node: node} }
func mapOf(node int) api.Op               { return api.Op{Kind: api.OpMap, Node: node} }
func talks(node int) api.Op               { return api.Op{Kind: api.OpTalks, Node: node} }
func count(node int) api.Op               { return api.Op{Kind: api.OpCount, Node: node} }
func bag() api.Op                         { return api.Op{Kind: api.OpBag} }
func at(l ...api.Op) []api.Op             { return l }
func namesNode(kind int) bool             { return kind <= 6 || kind >= 10 && kind <= 16 }
func saysNothing(a api.Answer) bool       { return same(a, api.Answer{}) }
func isOutside(n, lo, hi int) bool        { return n < lo || n > hi }
func numbered(first, n int) []string      { return keysFrom("k", first, n) }
func under(keys []string) []api.Entry     { return versioned(keys, 0) }
func many(n int) []api.Entry              { return under(numbered(0, n)) }
func print(n int, lane uint64) api.Tally  { return api.Tally{Count: n, Sum: api.Sum{lane, lane}} }
func reply(l ...api.Entry) api.Part       { return api.Part{Kind: 3, Range: whole(), Entries: l} }
func printed(t api.Tally) api.Part        { return api.Part{Kind: 1, Range: whole(), Tally: t} }
func other() api.Part                     { return printed(print(1, 1)) } // a Print that no map comes to, so that it is answered
func said(l ...api.Part) []api.Part       { return l }
func held(w *world.World, n int) []string { return keysOf(w.Map(n)) }

// every is a command of each kind, in which only what the table names is set.
func every() []api.Op {
	return at(put(0, "a", "x"), remove(0, "a"), get(0, "a"), scan(0, whole()), fold(0, whole()), open(0, 1), deliver(0), drop(0), double(0),
		raw(0, ""), tick(0), crash(0), start(0), mapOf(0), talks(0), count(0), bag())
}

// oddKeys are keys, rising: the empty one, some that begin others, those at the edges, and such as lie side by side.
func oddKeys() []string {
	return []string{"", "\x00", "\x00\x00", "A", "a", "a\x00", "aa", "ab", "a\xFF", "b", "ba", longKey, "ä", "\xFF", "\xFF\x00", "\xFF\xFF", highest}
}

// keysFrom are n keys that begin so, rising, from the first-th one on.
func keysFrom(text string, first, n int) []string {
	var l []string
	for i := first; i < first+n; i++ {
		l = append(l, text+string([]byte{byte(i >> 8), byte(i)}))
	}
	return l
}

func keysOf(l []api.Entry) []string {
	var keys []string
	for _, e := range l {
		keys = append(keys, e.Key)
	}
	return keys
}

// versioned are entries of these keys, by turns of each node, every third one dead; the Counters are mixed, from more on.
func versioned(keys []string, more int) []api.Entry {
	var l []api.Entry
	for i, key := range keys {
		counter := i*7%len(keys) + 1 + more
		if i%3 == 2 {
			l = append(l, dead(key, counter, i%mostNodes))
		} else {
			l = append(l, entry(key, counter, i%mostNodes, "v"+strconv.Itoa(i)))
		}
	}
	return l
}

// outside are numbers around those from lo to hi, none of them among these.
func outside(lo, hi int) []int {
	return []int{lo - 1, lo - 2, lo - 1000, math.MinInt32, math.MinInt, math.MinInt + 1, hi + 1, hi + 2, hi + 1000, math.MaxInt32, math.MaxInt - 1, math.MaxInt}
}

// writtenTwins are pairs of keys: what node 0 writes under the first one with the Counter i + 1, i being the pair's place, comes to the same as what node 1 writes under the second one with that Counter. (Such keys were searched for.)
func writtenTwins() [][2]string {
	return [][2]string{
		{"\x4d\x17\x89\x9c\xe5\x8e\xde\x10\x40\x9d\x3f\xd3\x01\x20\x8b\x1f", "\x4c\x82\xd9\xb2\xa7\x47\xd6\x36\xd5\x24\xbc\x0c\xca\xf3\xb5\x13"},
		{"\x70\x06\xb3\x68\x1c\x63\x22\x1a\xc8\xaf\x71\xe5\x1c\x9e\xe5\x6e", "\x75\x85\xb2\x73\x9d\x22\x5b\x75\x18\xa3\x8c\x1a\xa3\x8f\x1f\x7f"},
		{"\xfe\x37\xb9\xb1\xd9\x76\x82\xe4\xce\xcb\xb9\x36\xe1\x41\x7e\x28", "\xff\x58\xc1\xae\x8c\xf9\x53\x3f\x07\xb0\xb5\xb4\x78\xb1\x0c\x12"},
	}
}

func made(t *testing.T, nodes int, c api.Config) *world.World {
	t.Helper()
	w, e := world.New(nodes, c)
	if w == nil || e != api.OK {
		t.Fatalf("New(%d, %v): %d", nodes, c, e)
	}
	return w
}

// do has a command done that must not be refused.
func do(t *testing.T, w *world.World, o api.Op) api.Answer {
	t.Helper()
	a, e := w.Do(o)
	if e != api.OK {
		t.Fatalf("Do(%s): %d", quoted(o), e)
	}
	return a
}

// all has commands done, one behind the other, that must not be refused.
func all(t *testing.T, w *world.World, l ...api.Op) {
	t.Helper()
	for _, o := range l {
		do(t, w, o)
	}
}

// tells asks for just that answer.
func tells(t *testing.T, w *world.World, o api.Op, want api.Answer) {
	t.Helper()
	if a := do(t, w, o); !same(a, want) {
		t.Fatalf("Do(%s): %s, want %s", quoted(o), quoted(a), quoted(want))
	}
}

// errs asks for just that error, and nothing beside it.
func errs(t *testing.T, w *world.World, o api.Op, want api.Errno) {
	t.Helper()
	if a, e := w.Do(o); e != want || !saysNothing(a) {
		t.Fatalf("Do(%s): %s, %d, want %d", quoted(o), quoted(a), e, want)
	}
}

// refuses asks for just that error, and that nothing is another one behind it than ahead of it.
func refuses(t *testing.T, w *world.World, o api.Op, want api.Errno) {
	t.Helper()
	before := shoot(w)
	errs(t, w, o, want)
	if now := shoot(w); !now.is(before) {
		t.Fatalf("Do(%s): %s, want %s", quoted(o), quoted(now), quoted(before))
	}
}

// same says whether two answers are alike: lists without elements are, nil or not.
func same(a, b api.Answer) bool {
	return a.Version == b.Version && slices.Equal(a.Entries, b.Entries) && a.Tally == b.Tally && a.Session == b.Session && a.Heard == b.Heard &&
		slices.Equal(a.Talks, b.Talks) && a.Counters == b.Counters && slices.EqualFunc(a.Packets, b.Packets, samePackets)
}

func samePackets(p, q api.Packet) bool {
	return p.Num == q.Num && p.From == q.From && p.To == q.To && string(p.Data) == string(q.Data)
}

// seen is all that a node of a world tells of itself.
type seen struct {
	up       bool
	entries  []api.Entry
	talks    []api.Talk
	counters api.Counters
}

// shot is all that a world tells of itself.
type shot struct {
	nodes []seen
	under []api.Packet
}

func look(w *world.World, n int) seen {
	_, wrong := w.Do(fold(n, whole()))
	s := seen{up: wrong == api.OK, entries: w.Map(n)}
	a, _ := w.Do(talks(n))
	s.talks = a.Talks
	a, _ = w.Do(count(n))
	s.counters = a.Counters
	return s
}

func shoot(w *world.World) shot {
	var s shot
	for n := range w.Nodes() {
		s.nodes = append(s.nodes, look(w, n))
	}
	a, _ := w.Do(bag())
	s.under = a.Packets
	return s
}

func (s seen) is(o seen) bool {
	return s.up == o.up && slices.Equal(s.entries, o.entries) && slices.Equal(s.talks, o.talks) && s.counters == o.counters
}

func (s shot) is(o shot) bool {
	return slices.EqualFunc(s.nodes, o.nodes, seen.is) && slices.EqualFunc(s.under, o.under, samePackets)
}

// packets are all that are in the bag.
func packets(t *testing.T, w *world.World) []api.Packet {
	t.Helper()
	return do(t, w, bag()).Packets
}

// frames are those of the bag, in their order.
func frames(t *testing.T, w *world.World) []api.Frame {
	t.Helper()
	var l []api.Frame
	for _, p := range packets(t, w) {
		f, e := wire.Decode(p.Data)
		if e != api.OK || f.From != p.From || f.To != p.To {
			t.Fatalf("%v: %s, %d", p, brief(f), e)
		}
		l = append(l, f)
	}
	return l
}

// hasUnder asks that just these frames are in the bag.
func hasUnder(t *testing.T, w *world.World, want ...api.Frame) {
	t.Helper()
	if l := frames(t, w); !slices.EqualFunc(l, want, frame.Same) {
		t.Fatalf("%s, want %s", briefly(l), briefly(want))
	}
}

// isCalm asks that so many rounds go by, and the bag is empty then.
func isCalm(t *testing.T, w *world.World, want int) {
	t.Helper()
	if n, e := w.Calm(lastTurn + 1); n != want || e != api.OK {
		t.Fatalf("Calm: %d, %d, want %d", n, e, want)
	}
	hasUnder(t, w)
}

// calm lets everything come that is under way.
func calm(t *testing.T, w *world.World) {
	t.Helper()
	if _, e := w.Calm(lastTurn + 1); e != api.OK {
		t.Fatalf("Calm: %d", e)
	}
	hasUnder(t, w)
}

// meet has one node open a session with the other one, and all its frames come.
func meet(t *testing.T, w *world.World, one, peer int) api.Name {
	t.Helper()
	n := do(t, w, open(one, peer)).Session
	calm(t, w)
	return n
}

func bytesOf(t *testing.T, f api.Frame) string {
	t.Helper()
	data, e := wire.Encode(f)
	if e != api.OK {
		t.Fatalf("Encode(%s): %d", brief(f), e)
	}
	return string(data)
}

// first is a frame of turn 0 to that node.
func first(n api.Name, to int, p api.Part) api.Frame {
	return api.Frame{From: n.Opener, To: to, Session: n, Parts: said(p)}
}

// back is a frame that answers f, with these parts.
func back(f api.Frame, l ...api.Part) api.Frame {
	return api.Frame{From: f.To, To: f.From, Session: f.Session, Turn: f.Turn + 1, Parts: l}
}

// feed has a node take these entries: it opens a session that is answered from outside. The bag is empty ahead of it, and behind it.
func feed(t *testing.T, w *world.World, n int, l []api.Entry) {
	t.Helper()
	if len(l) == 0 {
		return
	}
	do(t, w, open(n, (n+1)%w.Nodes()))
	f := frames(t, w)[0]
	all(t, w, drop(0))
	tells(t, w, raw(n, bytesOf(t, back(f, reply(l...)))), api.Answer{Heard: api.Heard{Taken: len(l)}})
	all(t, w, drop(0))
	hasUnder(t, w)
}

// fed is a world whose nodes hold these maps, each started anew behind that.
func fed(t *testing.T, c api.Config, maps ...[]api.Entry) *world.World {
	t.Helper()
	w := made(t, max(len(maps), 2), c)
	for n, l := range maps {
		feed(t, w, n, l)
		all(t, w, crash(n), start(n))
		if !slices.Equal(w.Map(n), l) {
			t.Fatalf("%s, want %s", quoted(w.Map(n)), quoted(l))
		}
	}
	return w
}

// fill has the bag filled with doubles of its first frame, up to so many.
func fill(t *testing.T, w *world.World, frames int) {
	t.Helper()
	for n := len(packets(t, w)); n < frames; n++ {
		all(t, w, double(0))
	}
}

// talk is a node's session of that name, if it has it.
func talk(t *testing.T, w *world.World, node int, n api.Name) (api.Talk, bool) {
	t.Helper()
	for _, x := range do(t, w, talks(node)).Talks {
		if x.Session == n {
			return x, true
		}
	}
	return api.Talk{}, false
}

// isClosed says whether a node has a session that is over: what it has and is over is closed.
func isClosed(t *testing.T, w *world.World, node int, n api.Name) bool {
	t.Helper()
	x, is := talk(t, w, node, n)
	return is && x.Over
}

func counters(t *testing.T, w *world.World, n int) api.Counters {
	t.Helper()
	return do(t, w, count(n)).Counters
}

// agreed is a Print of what a node holds, to which it says nothing.
func agreed(w *world.World, n int) api.Part { return printed(tally.All(w.Map(n))) }

// quoted is what a failed test tells of what has keys and values, which may be any bytes; the beginning of it, where that is much.
func quoted(x any) string {
	text := fmt.Sprintf("%+v", x)
	return fmt.Sprintf("%q (%d bytes)", text[:min(len(text), 1000)], len(text))
}

// brief is what it tells of a frame.
func brief(f api.Frame) string {
	text := fmt.Sprintf("%+v", f)
	return fmt.Sprintf("a frame of %d parts: %q", len(f.Parts), text[:min(len(text), 300)])
}

// briefly is what it tells of frames.
func briefly(l []api.Frame) string {
	var text []string
	for _, f := range l {
		text = append(text, brief(f))
	}
	return fmt.Sprintf("%d frames [%s]", len(l), strings.Join(text, "; "))
}
