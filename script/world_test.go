package script_test

import (
	"fmt"
	"math/rand/v2"
	"strings"
	"testing"

	"tideline/api"
	"tideline/script"
	"tideline/world"
)

func newWorld(t *testing.T, nodes int, c api.Config) *world.World {
	t.Helper()
	w, e := world.New(nodes, c)
	if e != api.OK {
		t.Fatalf("world.New(%d, %v): error %d", nodes, c, e)
	}
	return w
}

// done is what a world answers to commands, in text.
func done(w *world.World, ops []api.Op) string {
	var b strings.Builder
	for _, o := range ops {
		a, e := w.Do(o)
		b.WriteString(script.Tell(o, a, e))
	}
	return b.String()
}

// played is what a new world answers to a text of commands.
func played(t *testing.T, nodes int, c api.Config, text string) string {
	t.Helper()
	ops, n, e := script.Read(text)
	if e != api.OK {
		t.Fatalf("Read(%s): line %d, error %d", short(text), n, e)
	}
	return done(newWorld(t, nodes, c), ops)
}

// anyCommand is a command as a world may well be given one; most of them name things that there are.
func anyCommand(r *rand.Rand, nodes int) api.Op {
	keys := []string{"", "a", "b", "\x00", "\xFF\xFF", "mm", longKey, overKey}
	values := []string{"", "x", "\n", longValue, overValue}
	ranges := []api.Range{from(""), rng("", "b"), rng("a", "a"), rng("b", "mm"), from("b")}
	node := r.IntN(nodes)
	if r.IntN(40) == 0 {
		node = nodes + r.IntN(3)
	}
	key := keys[r.IntN(len(keys))]
	switch kind := 1 + r.IntN(26); {
	case kind == 1, kind > 23:
		return put(node, key, values[r.IntN(len(values))])
	case kind == 2:
		return remove(node, key)
	case kind == 3:
		return get(node, key)
	case kind == 4:
		return scan(node, ranges[r.IntN(len(ranges))])
	case kind == 5:
		return fold(node, ranges[r.IntN(len(ranges))])
	case kind == 6, kind == 18:
		return open(node, r.IntN(nodes+1))
	case kind == 7, kind > 18:
		return of(7, r.IntN(3))
	case kind == 10:
		return raw(node, []string{"", "\x00", "\x00\x01\x00\x01\x01\x00\x00", values[r.IntN(len(values))]}[r.IntN(4)])
	case kind < 10:
		return of(kind, r.IntN(4))
	default:
		return of(kind, node)
	}
}

func anyCommands(r *rand.Rand, nodes, n int) []api.Op {
	var l []api.Op
	for range n {
		l = append(l, anyCommand(r, nodes))
	}
	return l
}

// textOf is the text of commands, here and there with empty lines between.
func textOf(t *testing.T, r *rand.Rand, ops []api.Op) string {
	t.Helper()
	var b strings.Builder
	for _, o := range ops {
		s, e := script.Print(o)
		if e != api.OK {
			t.Fatalf("Print(%s): error %d", brief(o), e)
		}
		b.WriteString(strings.Repeat("\n", max(r.IntN(8)-5, 0)) + s + "\n")
	}
	return b.String()
}

// W10: a world that is given commands one by one answers as one that is given them as a text; and again whenever it is played.
func TestWorldsGivenTexts(t *testing.T) {
	var all strings.Builder
	for seed := range uint64(60) {
		r := rand.New(rand.NewPCG(seed, 21))
		nodes := 2 + r.IntN(7)
		c := api.Config{Branch: 2 + r.IntN(3), Leaf: 1 + r.IntN(3), Wait: 1 + r.IntN(4), Tries: r.IntN(3)}
		ops := anyCommands(r, nodes, 400)
		text := textOf(t, r, ops)
		want := done(newWorld(t, nodes, c), ops)
		for range 2 {
			if s := played(t, nodes, c, text); s != want {
				t.Fatalf("seed %d: a world that is given the text answers another thing", seed)
			}
		}
		all.WriteString(want)
	}
	// Enough went on: there were sessions that closed, entries that moved, errors of all kinds.
	for _, s := range []string{"ok 0.1.1\n", "error 1\n", "error 20\n", "error 31\n", "error 120\n", "error 140\n", "error 161\n", "error 170\n", "error 171\n", " over\n", " open\n", "ok 1 0\n", " x\n", "ok\n"} {
		if !strings.Contains(all.String(), s) {
			t.Errorf("no world answered %q", s)
		}
	}
}

// W10: what is told of a world is what the second reading tells of its answers.
func TestWorldsAreToldAsTheyAnswer(t *testing.T) {
	for seed := range uint64(20) {
		r := rand.New(rand.NewPCG(seed, 210))
		w := newWorld(t, 3, api.Config{Branch: 2, Leaf: 1, Wait: 2, Tries: 1})
		for _, o := range anyCommands(r, 3, 500) {
			a, e := w.Do(o)
			tells(t, o, a, e, plainTell(o.Kind, a, e))
		}
	}
}

// W10: two texts, one behind the other, are played as one.
func TestTextsOneBehindTheOther(t *testing.T) {
	c := api.Config{Branch: 2, Leaf: 1, Wait: 2, Tries: 1}
	for seed := range uint64(10) {
		r := rand.New(rand.NewPCG(seed, 2100))
		first, second := textOf(t, r, anyCommands(r, 4, 200)), textOf(t, r, anyCommands(r, 4, 200))
		w := newWorld(t, 4, c)
		got := ""
		for _, text := range []string{first, second} {
			ops, _, _ := script.Read(text)
			got += done(w, ops)
		}
		if want := played(t, 4, c, first+"\n"+second); got != want {
			t.Fatalf("seed %d: two texts answer another thing than one", seed)
		}
	}
}

// shown is what a world of the ten examples answers to a text: each line behind the command's.
func shown(t *testing.T, nodes int, text string) string {
	t.Helper()
	ops, _, e := script.Read(text)
	if e != api.OK {
		t.Fatalf("Read(%s): error %d", short(text), e)
	}
	w := newWorld(t, nodes, api.Config{Branch: 2, Leaf: 1, Wait: 3, Tries: 1})
	s := ""
	for _, o := range ops {
		line, _ := script.Print(o)
		a, e := w.Do(o)
		s += "> " + line + "\n" + script.Tell(o, a, e)
	}
	return s
}

// asShown plays the commands of a protocol, the lines that begin with ">", and holds it against what is shown of them.
func asShown(t *testing.T, nodes int, want string) {
	t.Helper()
	text := ""
	for line := range strings.Lines(want) {
		if command, is := strings.CutPrefix(line, "> "); is {
			text += command
		}
	}
	if got := shown(t, nodes, text); got != want {
		t.Errorf("got\n%s\nwant\n%s", got, want)
	}
}

// W10, the document's example 1: writes at one node.
func TestExampleOfOneNode(t *testing.T) {
	asShown(t, 2, `> put 0 k61 =78
ok 1.0
> put 0 k61 =79
ok 2.0
> del 0 k62
ok 3.0
> scan 0 ..*
ok 1
k61 2.0 =79
> map 0
ok 2
k61 2.0 =79
k62 3.0 x
> get 0 k62
ok 1
k62 3.0 x
> get 0 k63
ok 0
> map 1
ok 0
> put 2 k61 =
error 161
> put 0 k`+overHex+` =
error 20
> put 0 k =`+hexOf(overValue)+`
error 31
`)
}

// W10, the document's example 4: one key differs.
func TestExampleOfASession(t *testing.T) {
	asShown(t, 2, `> put 0 k61 =78
ok 1.0
> open 0 1
ok 0.1.1
> bag
ok 1
1 0 1 27
> go 0
ok 0 0
> go 0
ok 0 0
> go 0
ok 1 0
> go 0
ok 0 0
> go 0
error 161
> put 0 k62 =
ok 2.0
> fold 0 ..61
ok 0 00000000000000000000000000000000
> fold 1 ..*
ok 1 935aaef53b42241113804f825c758b96
> fold 0 ..62
ok 1 935aaef53b42241113804f825c758b96
> open 0 1
ok 0.1.2
> go 0
ok 0 0
> go 0
ok 0 0
> go 0
ok 1 0
> talks 1
ok 2
0.1.1 0 3 0 over
0.1.2 0 3 0 over
> talks 0
ok 2
0.1.1 1 2 0 over
0.1.2 1 2 0 open
> go 0
ok 0 0
> map 1
ok 2
k61 1.0 =78
k62 2.0 =
> count 0
ok 4 0 4 0 0 2 0 0 2 0
> count 1
ok 4 0 4 0 0 1 2 0 2 0
`)
}

// W10, the document's examples 8 and 9: a closing frame is lost; a node crashes.
func TestExampleOfLosses(t *testing.T) {
	asShown(t, 2, `> open 0 1
ok 0.1.1
> go 0
ok 0 0
> drop 0
ok
> drop 0
error 161
> tick 0
ok
> tick 0
ok
> tick 0
ok
> talks 0
ok 1
0.1.1 1 0 1 open
> twice 0
ok
> bag
ok 2
3 0 1 27
4 0 1 27
> go 1
ok 0 0
> go 1
ok 0 0
> talks 0
ok 1
0.1.1 1 0 0 over
> raw 1 =
error 120
> crash 1
ok
> go 0
error 170
> map 1
ok 0
> talks 1
ok 0
> start 0
error 171
> crash 1
error 170
> start 1
ok
> count 1
ok 2 1 2 0 1 0 0 0 1 0
> count 0
ok 2 1 1 0 0 0 0 0 1 0
> open 1 0
ok 1.2.1
> open 1 1
error 1
> open 1 2
error 161
`)
}

// W10: a text of as many commands as may be.
func TestLongText(t *testing.T) {
	var b strings.Builder
	want := ""
	for i := range mostLines {
		fmt.Fprintf(&b, "put 0 k =%04x\n", i)
		want += fmt.Sprintf("ok %d.0\n", i+1)
	}
	if s := played(t, 2, api.Config{Branch: 2, Leaf: 1, Wait: 3, Tries: 1}, b.String()); s != want {
		t.Error("it answers another thing")
	}
}
