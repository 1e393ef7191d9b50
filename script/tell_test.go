package script_test

import (
	"fmt"
	"strings"
	"testing"

	"tideline/api"
)

func op(kind int) api.Op { return api.Op{Kind: kind} }

func entry(key string, counter, node int, value string) api.Entry {
	return api.Entry{Key: key, Version: api.Version{Counter: counter, Node: node}, Value: value}
}

func dead(key string, counter, node int) api.Entry {
	return api.Entry{Key: key, Version: api.Version{Counter: counter, Node: node}, Dead: true}
}

func name(opener, life, number int) api.Name {
	return api.Name{Opener: opener, Life: life, Number: number}
}

// full is an answer in which no field is zero.
func full() api.Answer {
	return api.Answer{
		Version:  api.Version{Counter: 3, Node: 1},
		Entries:  []api.Entry{entry("a", 1, 0, "b"), dead("c", 2, 7)},
		Tally:    api.Tally{Count: 4, Sum: api.Sum{0x935aaef53b422411, 0x13804f825c758b96}},
		Session:  name(5, 6, 7),
		Heard:    api.Heard{Taken: 8, Refused: 9},
		Talks:    []api.Talk{{Session: name(1, 2, 3), Peer: 4, Turn: 5, Tries: 6, Over: true}, {Session: name(6, 5, 4), Peer: 3, Turn: 2, Tries: 1}},
		Counters: api.Counters{Sent: 11, Again: 12, Heard: 13, Stale: 14, Bad: 15, Moved: 16, Taken: 17, Full: 18, Closed: 19, Lost: 20},
		Packets:  []api.Packet{{Num: 21, From: 1, To: 2, Data: []byte("abc")}, {Num: 23, From: 4, To: 5}},
	}
}

// kindsOf are those that have that line of the table.
var (
	writeKinds = []int{1, 2}
	mapKinds   = []int{3, 4, 14}
	heardKinds = []int{7, 10}
	plainKinds = []int{8, 9, 11, 12, 13}
	noKinds    = []int{0, -1, 18, 19, 100, 1<<32 + 1, greatest, lowest}
)

// P21.4: each kind, of an answer that has all fields: those that its kind does not name are not looked at, nor what else the command has.
func TestTellOfEachKind(t *testing.T) {
	want := map[int]string{
		1: "ok 3.1\n", 2: "ok 3.1\n",
		3: "ok 2\nk61 1.0 =62\nk63 2.7 x\n", 4: "ok 2\nk61 1.0 =62\nk63 2.7 x\n", 14: "ok 2\nk61 1.0 =62\nk63 2.7 x\n",
		5: "ok 4 935aaef53b42241113804f825c758b96\n", 6: "ok 5.6.7\n", 7: "ok 8 9\n", 10: "ok 8 9\n",
		8: "ok\n", 9: "ok\n", 11: "ok\n", 12: "ok\n", 13: "ok\n",
		15: "ok 2\n1.2.3 4 5 6 over\n6.5.4 3 2 1 open\n", 16: "ok 11 12 13 14 15 16 17 18 19 20\n", 17: "ok 2\n21 1 2 3\n23 4 5 0\n",
	}
	if len(want) != kinds {
		t.Fatalf("%d kinds", len(want))
	}
	for kind, s := range want {
		tells(t, op(kind), full(), api.OK, s)
		for _, y := range strays() {
			o := op(kind)
			y.change(&o)
			tells(t, o, full(), api.OK, s)
		}
	}
	for _, kind := range noKinds {
		tells(t, op(kind), full(), api.OK, "ok\n")
		tells(t, op(kind), api.Answer{}, api.OK, "ok\n")
	}
}

// P21.4: each kind, of an answer that has nothing.
func TestTellOfNothing(t *testing.T) {
	for kind := 1; kind <= kinds; kind++ {
		want := "ok\n"
		switch kind {
		case 1, 2:
			want = "ok 0.0\n"
		case 3, 4, 14, 15, 17:
			want = "ok 0\n"
		case 5:
			want = "ok 0 " + strings.Repeat("0", 32) + "\n"
		case 6:
			want = "ok 0.0.0\n"
		case 7, 10:
			want = "ok 0 0\n"
		case 16:
			want = "ok" + strings.Repeat(" 0", 10) + "\n"
		}
		tells(t, op(kind), api.Answer{}, api.OK, want)
		tells(t, op(kind), api.Answer{Entries: []api.Entry{}, Talks: []api.Talk{}, Packets: []api.Packet{}}, api.OK, want)
	}
}

// P21.4: each error's number, of every kind and none, whatever the answer is.
func TestTellOfErrors(t *testing.T) {
	numbers := []int{1, 10, 11, 12, 13, 20, 21, 22, 23, 30, 31, 32, 33, 50, 80, 90, 100, 110, 111, 112, 113, 114, 115, 116, 117, 120, 140, 160, 161, 170, 171, 190, 191, 192, 210, 2, 9, 99, 220, 1000, greatest}
	for _, n := range numbers {
		for kind := -1; kind <= kinds+2; kind++ {
			tells(t, op(kind), full(), api.Errno(n), fmt.Sprintf("error %d\n", n))
			tells(t, op(kind), api.Answer{}, api.Errno(n), fmt.Sprintf("error %d\n", n))
		}
		for _, x := range samples() {
			tells(t, x.op, full(), api.Errno(n), fmt.Sprintf("error %d\n", n))
		}
	}
	tells(t, op(17), api.Answer{}, api.ErrArg, "error 1\n")
	tells(t, op(7), api.Answer{}, api.ErrNone, "error 161\n")
	tells(t, op(1), api.Answer{}, api.ErrFull, "error 80\n")
}

// P21.4, R7: the number of no error is above 0: one below 0 counts as 0 there, too.
func TestTellOfErrorsBelow0(t *testing.T) {
	for _, n := range []int{-1, -210, lowest} {
		tells(t, op(1), full(), api.Errno(n), "error 0\n")
	}
}

// edges are numbers, and what they are as text.
func edges() []numberWord {
	l := append([]numberWord{}, goodNumbers()...)
	for _, n := range []int{-1, -2, -9, -10, -1 << 31, -1 << 40, lowest + 1, lowest} {
		l = append(l, numberWord{"0", n})
	}
	return l
}

// P21.4: each number of an answer at its edges; below 0 they count as 0.
func TestTellOfNumbers(t *testing.T) {
	for _, x := range edges() {
		n := x.n
		for _, kind := range writeKinds {
			tells(t, op(kind), api.Answer{Version: api.Version{Counter: n, Node: 2}}, api.OK, "ok "+x.text+".2\n")
			tells(t, op(kind), api.Answer{Version: api.Version{Counter: 2, Node: n}}, api.OK, "ok 2."+x.text+"\n")
		}
		tells(t, op(5), api.Answer{Tally: api.Tally{Count: n, Sum: api.Sum{1, 1<<64 - 1}}}, api.OK, "ok "+x.text+" 0000000000000001ffffffffffffffff\n")
		tells(t, op(6), api.Answer{Session: name(n, 1, 2)}, api.OK, "ok "+x.text+".1.2\n")
		tells(t, op(6), api.Answer{Session: name(1, n, 2)}, api.OK, "ok 1."+x.text+".2\n")
		tells(t, op(6), api.Answer{Session: name(1, 2, n)}, api.OK, "ok 1.2."+x.text+"\n")
		for _, kind := range heardKinds {
			tells(t, op(kind), api.Answer{Heard: api.Heard{Taken: n, Refused: 2}}, api.OK, "ok "+x.text+" 2\n")
			tells(t, op(kind), api.Answer{Heard: api.Heard{Taken: 2, Refused: n}}, api.OK, "ok 2 "+x.text+"\n")
		}
		for i := range 6 {
			words := []string{"1.2.3", "4", "5", "6", "open"}
			talk := api.Talk{Session: name(1, 2, 3), Peer: 4, Turn: 5, Tries: 6}
			*[]*int{&talk.Session.Opener, &talk.Session.Life, &talk.Session.Number, &talk.Peer, &talk.Turn, &talk.Tries}[i] = n
			words[max(i-2, 0)] = []string{x.text + ".2.3", "1." + x.text + ".3", "1.2." + x.text, x.text, x.text, x.text}[i]
			tells(t, op(15), api.Answer{Talks: []api.Talk{talk}}, api.OK, "ok 1\n"+strings.Join(words, " ")+"\n")
		}
		for i := range 10 {
			words := strings.Fields("1 2 3 4 5 6 7 8 9 10")
			c := api.Counters{Sent: 1, Again: 2, Heard: 3, Stale: 4, Bad: 5, Moved: 6, Taken: 7, Full: 8, Closed: 9, Lost: 10}
			*[]*int{&c.Sent, &c.Again, &c.Heard, &c.Stale, &c.Bad, &c.Moved, &c.Taken, &c.Full, &c.Closed, &c.Lost}[i] = n
			words[i] = x.text
			tells(t, op(16), api.Answer{Counters: c}, api.OK, "ok "+strings.Join(words, " ")+"\n")
		}
		for i := range 3 {
			words := strings.Fields("1 2 3 4")
			p := api.Packet{Num: 1, From: 2, To: 3, Data: []byte("abcd")}
			*[]*int{&p.Num, &p.From, &p.To}[i] = n
			words[i] = x.text
			tells(t, op(17), api.Answer{Packets: []api.Packet{p}}, api.OK, "ok 1\n"+strings.Join(words, " ")+"\n")
		}
	}
	for _, kind := range plainKinds {
		tells(t, op(kind), full(), api.OK, "ok\n")
	}
}

// P21.4: a sum's lanes, each at its edges.
func TestTellOfSums(t *testing.T) {
	for lane, text := range map[uint64]string{
		0: "0000000000000000", 1: "0000000000000001", 0xF: "000000000000000f", 0xABCDEF: "0000000000abcdef", 1 << 63: "8000000000000000",
		1<<63 - 1: "7fffffffffffffff", 1<<64 - 1: "ffffffffffffffff", 0x0123456789ABCDEF: "0123456789abcdef",
	} {
		tells(t, op(5), api.Answer{Tally: api.Tally{Count: 1, Sum: api.Sum{lane, 2}}}, api.OK, "ok 1 "+text+"0000000000000002\n")
		tells(t, op(5), api.Answer{Tally: api.Tally{Count: 1, Sum: api.Sum{2, lane}}}, api.OK, "ok 1 0000000000000002"+text+"\n")
	}
}

// spoken are entries, and what stands for them.
func spoken() []struct {
	e    api.Entry
	text string
} {
	return []struct {
		e    api.Entry
		text string
	}{
		{entry("a", 1, 0, "b"), "k61 1.0 =62"},
		{entry("", 1, 0, ""), "k 1.0 ="},
		{dead("", 1, 7), "k 1.7 x"},
		{dead("\x00\xFF", 1<<40, 7), "k00ff 1099511627776.7 x"},
		{entry(longKey, 1<<40, 7, longValue), "k" + longHex + " 1099511627776.7 =" + hexOf(longValue)},
		{api.Entry{}, "?"},
		{entry("a", 0, 0, ""), "?"},
		{entry("a", -1, 0, ""), "?"},
		{entry("a", 1<<40+1, 0, ""), "?"},
		{entry("a", 1, -1, ""), "?"},
		{entry("a", 1, 8, ""), "?"},
		{entry(overKey, 1, 0, ""), "?"},
		{entry("a", 1, 0, overValue), "?"},
		{api.Entry{Key: "a", Version: api.Version{Counter: 1}, Value: "b", Dead: true}, "?"},
		{entry("a", greatest, greatest, ""), "?"},
		{entry("a", lowest, lowest, ""), "?"},
	}
}

// P21.4: no entries, one and many, also such as have no text, in whatever order they stand.
func TestTellOfEntries(t *testing.T) {
	all := spoken()
	for _, kind := range mapKinds {
		for _, x := range all {
			tells(t, op(kind), api.Answer{Entries: []api.Entry{x.e}}, api.OK, "ok 1\n"+x.text+"\n")
		}
		for n := range 300 {
			if n > 30 && n < 250 {
				continue
			}
			var l []api.Entry
			want := fmt.Sprintf("ok %d\n", n)
			for i := range n {
				x := all[(i*7+n)%len(all)]
				l, want = append(l, x.e), want+x.text+"\n"
			}
			tells(t, op(kind), api.Answer{Entries: l}, api.OK, want)
		}
	}
}

// P21.4: Talks, over and open, Packets with no bytes and many: none, one, and many of them.
func TestTellOfTalksAndPackets(t *testing.T) {
	for _, n := range []int{0, 1, 2, 3, 9, 10, 11, 16, 99, 512} {
		var talks []api.Talk
		var packets []api.Packet
		wantTalks, wantPackets := fmt.Sprintf("ok %d\n", n), fmt.Sprintf("ok %d\n", n)
		for i := range n {
			talks = append(talks, api.Talk{Session: name(i%8, i+1, 1<<20-i), Peer: (i + 1) % 8, Turn: i % 64, Tries: i % 21, Over: i%3 == 0})
			state := []string{"over", "open", "open"}[i%3]
			wantTalks += fmt.Sprintf("%d.%d.%d %d %d %d %s\n", i%8, i+1, 1<<20-i, (i+1)%8, i%64, i%21, state)
			bytes := []int{0, 1, 27, 9, 10, 65536, 300}[i%7]
			packets = append(packets, api.Packet{Num: i * 3, From: i % 8, To: (i + 5) % 8, Data: make([]byte, bytes, bytes+i)})
			wantPackets += fmt.Sprintf("%d %d %d %d\n", i*3, i%8, (i+5)%8, bytes)
		}
		tells(t, op(15), api.Answer{Talks: talks}, api.OK, wantTalks)
		tells(t, op(17), api.Answer{Packets: packets}, api.OK, wantPackets)
	}
	tells(t, op(17), api.Answer{Packets: []api.Packet{{Data: nil}, {Data: []byte{}}, {Data: make([]byte, 1<<24)}}}, api.OK, "ok 3\n0 0 0 0\n0 0 0 0\n0 0 0 16777216\n")
}

// P21.4: lists are told as they are: those that are alike, too, and however many.
func TestTellOfManyMore(t *testing.T) {
	l := make([]api.Entry, 100000)
	tells(t, op(3), api.Answer{Entries: l}, api.OK, "ok 100000\n"+strings.Repeat("?\n", len(l)))
	for i := range l {
		l[i] = entry("a", 1, 0, "b")
	}
	tells(t, op(14), api.Answer{Entries: l}, api.OK, "ok 100000\n"+strings.Repeat("k61 1.0 =62\n", len(l)))
}
