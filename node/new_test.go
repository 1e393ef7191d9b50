package node_test

import (
	"slices"
	"testing"

	"tideline/api"
	"tideline/frame"
	"tideline/node"
)

// The chapter's examples, row by row.
func TestExamples(t *testing.T) {
	c := config(2, 4, 3, 2)
	newRefuses(t, 8, c)
	newRefuses(t, 0, api.Config{})
	n0, n1 := made(t, 0, c), made(t, 1, c)
	if v, e := n0.Put("a", "x"); v != (api.Version{Counter: 1, Node: 0}) || e != api.OK {
		t.Fatal(v, e)
	}
	f := opened(t, n0, 1)
	if f.Session != name(0, 1, 1) {
		t.Fatal(brief(f))
	}
	g, _, h := heard(t, n1, f)
	if !slices.EqualFunc([]api.Frame{g}, []api.Frame{back(f, items(whole()))}, frame.Same) || h != (api.Heard{}) {
		t.Fatal(brief(g), h)
	}
	f = answered(t, n0, g)
	if !frame.Same(f, back(g, reply(whole(), entry("a", 1, 0, "x")))) {
		t.Fatal(brief(f))
	}
	g, is, h := heard(t, n1, f)
	if !is || !frame.Closing(g) || h != (api.Heard{Taken: 1}) {
		t.Fatal(brief(g), h)
	}
	if h := unanswered(t, n0, g); h != (api.Heard{}) {
		t.Fatal(h)
	}
	refuses(t, "the closing frame once more", n0, g, api.ErrStale)
	if k := n0.Counters(); k != (api.Counters{Sent: 2, Heard: 2, Stale: 1, Moved: 1, Closed: 1}) {
		t.Fatalf("%+v", k)
	}
	exampleOfCrash(t, n0)
}

func exampleOfCrash(t *testing.T, n *node.Node) {
	t.Helper()
	if e := n.Crash(); e != api.OK {
		t.Fatal(e)
	}
	if x, found, e := n.Get("a"); x != (api.Entry{}) || found || e != api.ErrDown {
		t.Fatal(x, found, e)
	}
	if l := n.Map(); !slices.Equal(l, list(entry("a", 1, 0, "x"))) {
		t.Fatal(quoted(l))
	}
	if e := n.Start(); e != api.OK || n.Life() != 2 {
		t.Fatal(e, n.Life())
	}
	if f := opened(t, n, 1); f.Session != name(0, 2, 1) {
		t.Fatal(brief(f))
	}
	refusesBytes(t, "nothing", n, nil, api.ErrFrame)
	if e := n.Start(); e != api.ErrUp {
		t.Fatal(e)
	}
}

// The first of the examples of the whole: what is written at one node.
func TestExampleOfTheMap(t *testing.T) {
	n := made(t, 0, config(2, 1, 3, 1))
	for i, write := range []func() (api.Version, api.Errno){
		func() (api.Version, api.Errno) { return n.Put("a", "x") },
		func() (api.Version, api.Errno) { return n.Put("a", "y") },
		func() (api.Version, api.Errno) { return n.Delete("b") },
	} {
		if v, e := write(); v != (api.Version{Counter: i + 1, Node: 0}) || e != api.OK {
			t.Fatal(i, v, e)
		}
	}
	if l := n.Map(); !slices.Equal(l, list(entry("a", 2, 0, "y"), dead("b", 3, 0))) {
		t.Error(quoted(l))
	}
	if l, e := n.Scan(whole()); e != api.OK || !slices.Equal(slices.Collect(l), list(entry("a", 2, 0, "y"))) {
		t.Error(e)
	}
	if sum, e := n.Fold(whole()); sum.Count != 2 || e != api.OK {
		t.Error(sum, e)
	}
}

// The fourth and the fifth of them: one key differs; nothing differs.
func TestExamplesOfSessions(t *testing.T) {
	c := config(2, 1, 3, 1)
	n0, n1 := holding(t, 0, c, list(at("a"), entry("b", 2, 0, "b"))), holding(t, 1, c, list(at("a")))
	both := map[int]*node.Node{0: n0, 1: n1}
	all := handOn(t, opened(t, n0, 1), both)
	want := []api.Frame{
		all[0],
		back(all[0], items(whole(), at("a"))),
		back(all[1], reply(whole(), entry("b", 2, 0, "b"))),
		back(all[2]),
	}
	if !slices.EqualFunc(all, want, frame.Same) || all[0].Parts[0].Tally.Count != 2 {
		t.Error(briefly(all))
	}
	if count := moved(all); count != 2 {
		t.Error(count)
	}
	if !slices.Equal(n0.Map(), n1.Map()) {
		t.Error(quoted(n0.Map()), quoted(n1.Map()))
	}
	if all := handOn(t, opened(t, n1, 0), both); len(all) != 2 || !frame.Closing(all[1]) {
		t.Error(briefly(all))
	}
}

// newRefuses asks that no node is made.
func newRefuses(t *testing.T, id int, c api.Config) {
	t.Helper()
	if n, e := node.New(id, c); n != nil || e != api.ErrArg {
		t.Errorf("New(%d, %v): %v, %d", id, c, n != nil, e)
	}
}

// P17.1: a node that is up, in its life 1, that holds nothing, has no session, and counted nothing; of each id, and of Configs at their edges.
func TestNew(t *testing.T) {
	for id := range 8 {
		for _, c := range sampleConfigs() {
			n := made(t, id, c)
			want := shot{up: true, life: 1, joins: n.Joins()}
			if now := shoot(n); !now.is(want) {
				t.Fatalf("New(%d, %v): %s", id, c, quoted(now))
			}
			if v, e := n.Put("k", "v"); v != (api.Version{Counter: 1, Node: id}) || e != api.OK {
				t.Errorf("node %d: %v, %d", id, v, e)
			}
			if f := opened(t, n, (id+1)%8); f.From != id || f.Session != name(id, 1, 1) {
				t.Errorf("node %d: %s", id, brief(f))
			}
		}
	}
}

// P17.1: ErrArg of ids that may not be, of Configs that may not be, and of both.
func TestNewRefuses(t *testing.T) {
	for _, id := range outside(0, 7) {
		for _, c := range append(sampleConfigs(), spoiltConfigs()...) {
			newRefuses(t, id, c)
		}
	}
	for id := range 8 {
		for _, c := range spoiltConfigs() {
			newRefuses(t, id, c)
		}
	}
}

// lives are a node that holds many(held) entries, in its first life (which these entries came in), in a later one, and in the last one.
func lives(t *testing.T, id int, c api.Config, held int) []*node.Node {
	t.Helper()
	one, later, last := made(t, id, c), holding(t, id, c, many(held)), made(t, id, c)
	feed(t, one, many(held))
	feed(t, last, many(held))
	lastLife(t, last)
	return []*node.Node{one, later, last}
}

// lastLife has the node crash, and begin its last life.
func lastLife(t *testing.T, n *node.Node) {
	t.Helper()
	if e := n.Crash(); e != api.OK {
		t.Fatal(e)
	}
	n.Skip(mostLives - 1)
	if e := n.Start(); e != api.OK || n.Life() != mostLives {
		t.Fatal(e, n.Life())
	}
}

// P17.1, P17.5: each life goes by the Config that the node was made with: into how many parts it splits, what it sends outright, how long it waits, how often it sends again.
func TestConfigInEachLife(t *testing.T) {
	for _, c := range sampleConfigs() {
		for _, n := range lives(t, 3, c, 60) {
			answer := answered(t, n, first(name(5, 1, 1), 3, other(whole())))
			if len(answer.Parts) != c.Branch || answer.Parts[0].Kind != api.PartPrint {
				t.Fatalf("%v, life %d: %s", c, n.Life(), brief(answer))
			}
			for range c.Tries {
				ticks(t, n, c.Wait-1)
				tickTells(t, n, answer)
			}
			ticks(t, n, c.Wait-1)
			counts(t, "given up", n, api.Counters{Lost: 1}, func() { tickTells(t, n) })
		}
		for _, held := range []int{c.Leaf, c.Leaf + 1} {
			for _, n := range lives(t, 3, c, held) {
				answer := answered(t, n, first(name(5, 1, 1), 3, other(whole())))
				if outright := answer.Parts[0].Kind == api.PartItems; outright != (held == c.Leaf) {
					t.Fatalf("%v, life %d, %d entries: %s", c, n.Life(), held, brief(answer))
				}
			}
		}
	}
}

// R3: no two nodes have anything in common, also of one id and one Config: neither maps, nor clocks, nor sessions, nor ticks, nor counters, nor lives.
func TestNodesAreApart(t *testing.T) {
	c := plainConfig()
	one, two, elsewhere := made(t, 3, c), made(t, 3, c), made(t, 5, c)
	was, also := shoot(two), shoot(elsewhere)
	writes(t, one, oddKeys()...)
	for i := range 4 {
		handOn(t, opened(t, one, 5), map[int]*node.Node{3: one, 5: made(t, 5, c)})
		answered(t, one, first(name(6, 1, i+1), 3, other(whole())))
		tick(t, one)
	}
	for range 10 {
		tick(t, one)
	}
	restart(t, one)
	one.Crash()
	for _, x := range []struct {
		n    *node.Node
		want shot
		id   int
	}{{two, was, 3}, {elsewhere, also, 5}} {
		if now := shoot(x.n); !now.is(x.want) {
			t.Errorf("another node: %s, want %s", quoted(now), quoted(x.want))
		}
		if v, e := x.n.Put("a", ""); v != (api.Version{Counter: 1, Node: x.id}) || e != api.OK {
			t.Error(v, e)
		}
		if f := opened(t, x.n, 6); f.Session != name(x.id, 1, 1) {
			t.Error(brief(f))
		}
		answered(t, x.n, first(name(6, 1, 1), x.id, other(whole())))
	}
}
