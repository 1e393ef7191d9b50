package node_test

import (
	"slices"
	"testing"

	"tideline/api"
)

// roomy is a copy of bytes with spare room, as much as an answer may need, with bytes in it.
func roomy(b []byte) []byte {
	return append(slices.Clone(b), make([]byte, 70000)...)[:len(b)]
}

// spoil writes over bytes, and over their spare room.
func spoil(b []byte) {
	b = b[:cap(b)]
	for i := range b {
		b[i] = ^b[i]
	}
}

func spoilEntries(l []api.Entry) {
	l = l[:cap(l)]
	for i := range l {
		l[i] = entry("spoilt", -1, -1, "spoilt")
	}
}

func spoilTalks(l []api.Talk) {
	l = l[:cap(l)]
	for i := range l {
		l[i] = api.Talk{Session: name(9, 9, 9), Peer: -1, Turn: -1, Tries: 99, Over: true}
	}
}

// handed are parts of all kinds, in turn, to which a side with the odd keys has something to say each time but the last.
func handed() [][]api.Part {
	return [][]api.Part{
		{other(whole())},
		{items(whole(), under(oddKeys()[3:12], 4)...)},
		{items(from("a"))},
		{
			other(rng("", "A")),
			items(rng("A", "aa"), under([]string{"a", "a\x00"}, 9)...),
			other(rng("aa", "b")),
			reply(rng("c", "k"), under([]string{"c", "d"}, 0)...),
			items(rng("k", "\xFF")),
		},
		{reply(whole(), under(oddKeys()[2:], 4)...)},
	}
}

// deliverAndSpoil hands the node bytes, and writes over them, and over its answer; it tells a copy of that.
func (p pair) deliverAndSpoil(t *testing.T, b []byte) []byte {
	t.Helper()
	own := roomy(b)
	was := slices.Clone(own[:cap(own)])
	data, h, e := p.n.Deliver(own)
	if !slices.Equal(own[:cap(own)], was) {
		t.Fatalf("Deliver(%x): the bytes were changed", b)
	}
	spoil(own)
	want, wantHeard, wantError := p.also.deliver(b)
	if !slices.Equal(data, want) || h != wantHeard || e != wantError {
		t.Fatalf("Deliver(%x): %x, %v, %d, want %x, %v, %d", b, data, h, e, want, wantHeard, wantError)
	}
	spoil(data)
	p.isOne(t, "spoilt")
	return slices.Clone(want)
}

// R3: bytes that are handed to Deliver are neither changed nor kept, and what it answers is new memory: all are written over at once, and the node goes on as its second reading does, which keeps copies.
func TestBytesAreApart(t *testing.T) {
	for _, leaf := range []int{1, 5, 32} {
		p := fedPair(t, 3, config(3, leaf, 3, 2), under(oddKeys(), 0))
		opening, _ := p.open(t, 5)
		last := [][]byte{slices.Clone(opening)}
		spoil(opening)
		begin := bytesOf(t, first(name(6, 1, 1), 3, other(whole())))
		p.deliverAndSpoil(t, begin)
		last = append(last, p.deliverAndSpoil(t, begin))
		for _, l := range handed() {
			for i := range last {
				f := bytesOf(t, back(frameOf(t, last[i]), l...))
				p.deliverAndSpoil(t, f)
				last[i] = p.deliverAndSpoil(t, f)
			}
			for _, data := range p.tick(t) {
				spoil(data)
			}
			p.deliverAndSpoil(t, begin[1:])
			p.deliverAndSpoil(t, begin)
		}
		p.settled(t)
	}
}

// R3: what Tick tells is new memory, each frame's bytes apart from all others'.
func TestTickIsApart(t *testing.T) {
	p := fedPair(t, 3, config(3, 32, 1, 4), under(oddKeys(), 0))
	for i := range mostTalks {
		p.deliver(t, bytesOf(t, first(name(5, 1, i+1), 3, other(whole()))))
	}
	for range 4 {
		l := p.tick(t)
		if len(l) != mostTalks {
			t.Fatal(len(l))
		}
		want := make([][]byte, len(l))
		for i, data := range l {
			want[i] = slices.Clone(data)
		}
		for i := range l {
			spoil(l[i])
			l[i] = want[i]
			if !slices.EqualFunc(l, want, func(a, b []byte) bool { return string(a) == string(b) }) {
				t.Fatalf("the bytes %d were changed, and others with them", i)
			}
		}
		for i := range l[:cap(l)] {
			l[:cap(l)][i] = nil
		}
		p.isOne(t, "spoilt")
	}
	p.settled(t)
}

// R3: what Map and Talks tell is new memory each time, while the node is up and while it is down.
func TestListsAreApart(t *testing.T) {
	p := fedPair(t, 3, plainConfig(), many(30))
	for i := range 5 {
		p.open(t, 5)
		p.deliver(t, bytesOf(t, first(name(6, 1, i+1), 3, other(whole()))))
		for range 2 {
			l, m := p.n.Map(), p.n.Map()
			spoilEntries(l)
			if !slices.Equal(m, p.also.held()) {
				t.Fatal(quoted(m))
			}
			spoilEntries(m)
			spoilTalks(p.n.Talks())
			p.isOne(t, "spoilt")
			p.crash(t)
		}
		p.start(t)
	}
	p.settled(t)
}

// R3: what is done since changes nothing of what was answered.
func TestAnswersStayAsTheyWere(t *testing.T) {
	p := fedPair(t, 3, config(2, 32, 1, 20), many(20))
	var all, want [][]byte
	keep := func(l ...[]byte) {
		for _, data := range l {
			all, want = append(all, data), append(want, slices.Clone(data))
		}
	}
	_, opening, _ := p.n.Open(5)
	p.also.open(5)
	keep(opening)
	for i := range 10 {
		data, _, _ := p.n.Deliver(bytesOf(t, first(name(6, 1, i+1), 3, other(whole()))))
		p.also.deliver(bytesOf(t, first(name(6, 1, i+1), 3, other(whole()))))
		keep(data)
		l, _ := p.n.Tick()
		p.also.tick()
		keep(l...)
	}
	talks := p.n.Talks()
	wantTalks := slices.Clone(talks)
	for i, key := range numbered(0, 40) {
		p.put(t, key, "later")
		p.deliver(t, bytesOf(t, back(frameOf(t, opening), items(whole(), entry("new", i+1, 7, "")))))
		p.tick(t)
	}
	p.crash(t)
	p.start(t)
	if !slices.EqualFunc(all, want, func(a, b []byte) bool { return string(a) == string(b) }) || !slices.Equal(talks, wantTalks) {
		t.Error("what was answered has changed")
	}
}

// R3: bytes that are refused are not changed either, while the node is up and while it is down.
func TestRefusedBytesAreNotChanged(t *testing.T) {
	n := busy(t, 4)
	begin := bytesOf(t, first(name(6, 1, 1), 3, other(whole())))
	for range 2 {
		for _, b := range [][]byte{begin, begin[1:], append(slices.Clone(begin), 1), bytesOf(t, first(name(6, 1, 1), 4, other(whole()))), {}} {
			own := roomy(b)
			was := slices.Clone(own[:cap(own)])
			if _, _, e := n.Deliver(own); e == api.OK {
				t.Fatal(e)
			}
			if !slices.Equal(own[:cap(own)], was) {
				t.Errorf("%x was changed", b)
			}
		}
		n.Crash()
	}
}

// R5: nodes to which the same happened tell the same, whatever else was asked of them meanwhile.
func TestOneAnswer(t *testing.T) {
	run := func(asked bool) (shot, [][]byte) {
		n := made(t, 3, config(3, 2, 2, 2))
		var all [][]byte
		ask := func() {
			if asked {
				shoot(n)
				n.Get("a")
				n.Scan(whole())
				n.Start()
				n.Open(3)
			}
		}
		for i := range 60 {
			ask()
			writes(t, n, numbered(i*7%50, 1)...)
			_, data, _ := n.Open(5)
			all = append(all, data)
			ask()
			answer, _, _ := n.Deliver(bytesOf(t, first(name(6, 1, i+1), 3, other(whole()))))
			all = append(all, answer)
			l, _ := n.Tick()
			all = append(all, l...)
			if i%20 == 19 {
				n.Crash()
				if asked {
					n.Map()
					n.Crash()
					n.Put("a", "")
				}
				n.Start()
			}
		}
		return shoot(n), all
	}
	want, wantBytes := run(false)
	for _, asked := range []bool{false, true} {
		now, all := run(asked)
		if !now.is(want) || !slices.EqualFunc(all, wantBytes, func(a, b []byte) bool { return string(a) == string(b) }) {
			t.Errorf("%s, want %s", quoted(now), quoted(want))
		}
	}
}
