package world_test

import (
	"slices"
	"testing"

	"tideline/api"
	"tideline/frame"
)

// The document's ten examples of the whole.

// W1: a key put twice, and another one deleted that nobody wrote.
func TestFirstExample(t *testing.T) {
	w := made(t, 2, plainConfig())
	tells(t, w, put(0, "a", ""), api.Answer{Version: api.Version{Counter: 1}})
	tells(t, w, put(0, "a", ""), api.Answer{Version: api.Version{Counter: 2}})
	tells(t, w, remove(0, "b"), api.Answer{Version: api.Version{Counter: 3}})
	isMap(t, w, 0, list(entry("a", 2, 0, ""), dead("b", 3, 0)))
	tells(t, w, scan(0, whole()), api.Answer{Entries: list(entry("a", 2, 0, ""))})
	if n := do(t, w, fold(0, whole())).Tally.Count; n != 2 {
		t.Errorf("%d", n)
	}
}

// W2: what one entry comes to, and two.
func TestSecondExample(t *testing.T) {
	w := made(t, 2, plainConfig())
	all(t, w, put(0, "a", ""))
	one := api.Sum{0x935aaef53b422411, 0x13804f825c758b96}
	tells(t, w, fold(0, whole()), api.Answer{Tally: api.Tally{Count: 1, Sum: one}})
	all(t, w, put(0, "b", ""))
	other := do(t, w, fold(0, from("b"))).Tally.Sum
	tells(t, w, fold(0, whole()), api.Answer{Tally: api.Tally{Count: 2, Sum: api.Sum{one[0] + other[0], one[1] + other[1]}}})
}

// W5: the whole range with five keys is split in two: from the beginning to the third one, and from there on.
func TestThirdExample(t *testing.T) {
	w := made(t, 2, plainConfig())
	writes(t, w, 1, "a", "b", "c", "d", "e")
	all(t, w, open(0, 1), deliver(0))
	l := frames(t, w)
	if len(l) != 1 || len(l[0].Parts) != 2 || l[0].Parts[0].Range != rng("", "c") || l[0].Parts[1].Range != from("c") {
		t.Errorf("%s", briefly(l))
	}
}

// W5, W6: one key differs, two entries move.
func TestFourthExample(t *testing.T) {
	w := made(t, 2, plainConfig())
	all(t, w, put(0, "a", "x"))
	meet(t, w, 0, 1)
	all(t, w, put(0, "b", "y"), open(0, 1))
	a, b := w.Map(0)[0], w.Map(0)[1]
	var parts []api.Part
	for l := frames(t, w); len(l) > 0; l = frames(t, w) {
		parts = append(parts, l[0].Parts...)
		all(t, w, deliver(0))
	}
	if len(parts) != 3 || parts[0].Tally.Count != 2 || parts[1].Kind != 2 || !slices.Equal(parts[1].Entries, list(a)) || parts[2].Kind != 3 || !slices.Equal(parts[2].Entries, list(b)) {
		t.Errorf("%s", quoted(parts))
	}
	isMap(t, w, 1, list(a, b))
}

// W6: both hold the same: the first frame, the closing one.
func TestFifthExample(t *testing.T) {
	w := made(t, 2, plainConfig())
	all(t, w, put(0, "a", "x"))
	meet(t, w, 0, 1)
	all(t, w, open(0, 1), deliver(0))
	if l := frames(t, w); len(l) != 1 || !frame.Closing(l[0]) {
		t.Errorf("%s", briefly(l))
	}
	isCalm(t, w, 1)
}

// W5: of two versions of one Counter that of the greater node is held, and the next one is above both.
func TestSixthExample(t *testing.T) {
	w := made(t, 2, plainConfig())
	for n := range 2 {
		all(t, w, remove(n, "k"), remove(n, "k"), put(n, "k", "old"))
	}
	tells(t, w, put(0, "k", "zero"), api.Answer{Version: api.Version{Counter: 4, Node: 0}})
	tells(t, w, put(1, "k", "one"), api.Answer{Version: api.Version{Counter: 4, Node: 1}})
	meet(t, w, 0, 1)
	for n := range 2 {
		isMap(t, w, n, list(entry("k", 4, 1, "one")))
	}
	tells(t, w, put(0, "k", ""), api.Answer{Version: api.Version{Counter: 5, Node: 0}})
}

// W5: as many keys as there is room for, and another one.
func TestSeventhExample(t *testing.T) {
	w := made(t, 2, plainConfig())
	writes(t, w, 1, numbered(0, most)...)
	all(t, w, put(0, "a", ""))
	if v := onlySession(t, w, plainConfig(), 0, 1); v.Kind != api.VerdictFull {
		t.Errorf("%v", v)
	}
	if k := counters(t, w, 1); k.Full != 1 || len(held(w, 1)) != most {
		t.Errorf("%+v", k)
	}
}

// W7: the closing frame is lost: the other side's last frame goes out again, and is answered by it once more.
func TestEighthExample(t *testing.T) {
	w := made(t, 2, plainConfig())
	all(t, w, put(0, "a", ""))
	s := do(t, w, open(0, 1)).Session
	all(t, w, deliver(0), deliver(0), deliver(0))
	closing := frames(t, w)[0]
	if !frame.Closing(closing) || closing.From != 1 {
		t.Fatal(brief(closing))
	}
	all(t, w, drop(0), tick(0), tick(0))
	hasUnder(t, w)
	all(t, w, tick(0))
	again := frames(t, w)
	if len(again) != 1 || again[0].Turn != closing.Turn-1 {
		t.Fatal(briefly(again))
	}
	all(t, w, deliver(0))
	hasUnder(t, w, closing)
	all(t, w, deliver(0))
	isClosedAtBoth(t, w, s, 0, 1)
}

// W8: a node crashes in the midst: its peer gives up behind Wait * (Tries + 1) ticks, and opens another session.
func TestNinthExample(t *testing.T) {
	w, s, _ := mid(t, 4)
	all(t, w, crash(1), start(1))
	errs(t, w, deliver(0), api.ErrStale)
	for i := range 6 {
		if _, is := talk(t, w, 0, s); !is {
			t.Fatalf("given up behind %d ticks", i)
		}
		all(t, w, tick(0))
	}
	if _, is := talk(t, w, 0, s); is {
		t.Fatal("not given up")
	}
	errs(t, w, deliver(0), api.ErrStale)
	hasUnder(t, w)
	metBy(t, w, plainConfig(), 0, 1)
}

// W9: three nodes, each with a key of its own.
func TestTenthExample(t *testing.T) {
	w := made(t, 3, plainConfig())
	all(t, w, put(0, "a", ""), put(1, "b", ""), put(2, "c", ""))
	meet(t, w, 0, 1)
	meet(t, w, 1, 2)
	meet(t, w, 0, 1)
	for n := range 3 {
		isMap(t, w, n, list(entry("a", 1, 0, ""), entry("b", 1, 1, ""), entry("c", 1, 2, "")))
	}
}
