package script_test

import (
	"reflect"
	"runtime"
	"slices"
	"strings"
	"sync"
	"testing"
	"unsafe"
	"weak"

	"tideline/api"
	"tideline/script"
)

// R3: the commands that Read tells are the caller's, with their spare room: what is done to them no later answer tells.
func TestReadIsApart(t *testing.T) {
	for _, n := range []int{0, 1, 2, 3, 5, 100, mostLines} {
		text := strings.Join(linesOf(n, n), "\n")
		first, _, _ := script.Read(text)
		second, _, _ := script.Read(text)
		spare := first[:cap(first)]
		for i := range spare {
			spare[i] = put(9, "spoilt", "spoilt")
		}
		if !slices.Equal(second, opsOf(n, n)) {
			t.Fatalf("of %d commands: another answer was spoilt", n)
		}
		reads(t, text, opsOf(n, n))
	}
}

// roomy is a list with spare room, in which something stands.
func roomy[T any](l []T, behind T) []T {
	all := append(slices.Clone(l), behind, behind, behind)
	return all[:len(l):len(all)]
}

// roomyAnswer has all lists of an answer, and the bytes of its packets, with spare room.
func roomyAnswer() api.Answer {
	a := full()
	for i := range a.Packets {
		a.Packets[i].Data = roomy(a.Packets[i].Data, '!')
	}
	a.Entries = roomy(a.Entries, entry("behind", 9, 1, "behind"))
	a.Talks = roomy(a.Talks, api.Talk{Session: name(7, 7, 7), Peer: 7})
	a.Packets = roomy(a.Packets, api.Packet{Num: 99, Data: []byte("behind")})
	return a
}

// wholly is an answer with all that lies behind its lists' lengths.
func wholly(a api.Answer) api.Answer {
	a.Entries, a.Talks, a.Packets = a.Entries[:cap(a.Entries)], a.Talks[:cap(a.Talks)], slices.Clone(a.Packets[:cap(a.Packets)])
	for i, p := range a.Packets {
		a.Packets[i].Data = p.Data[:cap(p.Data)]
	}
	return a
}

// R3: an answer that is handed in is not changed, nor what lies behind its lists.
func TestTellChangesNothing(t *testing.T) {
	for kind := -1; kind <= kinds+1; kind++ {
		for _, e := range []api.Errno{api.OK, api.ErrArg} {
			a, was := roomyAnswer(), roomyAnswer()
			tells(t, op(kind), a, e, plainTell(kind, a, e))
			if !reflect.DeepEqual(wholly(a), wholly(was)) {
				t.Fatalf("kind %d: what was handed in is another one", kind)
			}
		}
	}
}

// R3: what Tell told stays, whatever becomes of the answer.
func TestToldStays(t *testing.T) {
	for kind := 1; kind <= kinds; kind++ {
		a := roomyAnswer()
		want := strings.Clone(plainTell(kind, a, api.OK))
		s := script.Tell(op(kind), a, api.OK)
		clear(a.Entries[:cap(a.Entries)])
		clear(a.Talks[:cap(a.Talks)])
		clear(a.Packets[:cap(a.Packets)])
		script.Tell(op(kind), a, api.OK)
		if s != want {
			t.Fatalf("kind %d: %s, want %s", kind, short(s), short(want))
		}
	}
}

// R3: lists that are handed in are given back.
func TestTellKeepsNothing(t *testing.T) {
	var told []string
	var entries []weak.Pointer[api.Entry]
	var talks []weak.Pointer[api.Talk]
	var packets []weak.Pointer[api.Packet]
	for kind := 1; kind <= kinds; kind++ {
		a := roomyAnswer()
		entries, talks, packets = append(entries, weak.Make(&a.Entries[0])), append(talks, weak.Make(&a.Talks[0])), append(packets, weak.Make(&a.Packets[0]))
		told = append(told, script.Tell(op(kind), a, api.OK))
	}
	runtime.GC()
	runtime.GC()
	for i := range told {
		if entries[i].Value() != nil || talks[i].Value() != nil || packets[i].Value() != nil {
			t.Errorf("kind %d: a list is kept", i+1)
		}
	}
	runtime.KeepAlive(told)
}

// copied is a text in memory of its own, and what tells whether it is still there.
func copied(s string) (string, weak.Pointer[byte]) {
	s = strings.Clone(s)
	return s, weak.Make(unsafe.StringData(s))
}

// R3: texts that are handed in are given back: what comes of them has memory of its own.
func TestTextsAreNotKept(t *testing.T) {
	var texts []weak.Pointer[byte]
	var parsed, read []api.Op
	var printed []string
	note := func(s string) string {
		s, p := copied(s)
		texts = append(texts, p)
		return s
	}
	for _, x := range samples() {
		// What has less than 16 bytes may share its memory with what is near it.
		if len(x.text) < 16 {
			continue
		}
		o, _ := script.Parse(note(x.text))
		l, _, _ := script.Read(note(x.text + "\nbag"))
		s, _ := script.Print(put(x.op.Node, note(longKey), note(longValue)))
		e := entry(note(longKey), 1, 0, note(longValue))
		printed = append(printed, s, script.Tell(get(0, ""), api.Answer{Entries: []api.Entry{e}}, api.OK))
		parsed, read = append(parsed, o), append(read, l...)
	}
	if len(parsed) < 10 {
		t.Fatalf("%d lines", len(parsed))
	}
	runtime.GC()
	runtime.GC()
	for i, p := range texts {
		if p.Value() != nil {
			t.Errorf("text %d is kept", i)
		}
	}
	runtime.KeepAlive(parsed)
	runtime.KeepAlive(read)
	runtime.KeepAlive(printed)
}

// R5: what a call answers hangs on its arguments alone, whatever was asked ahead of it.
func TestNothingIsKept(t *testing.T) {
	for _, x := range samples() {
		for _, y := range samples() {
			parses(t, x.text, x.op)
			isNone(t, y.text+" ")
			prints(t, y.op, y.text)
			isNoText(t, y.text+"\n"+x.text+"\nx", 3)
			reads(t, x.text+"\n"+y.text, []api.Op{x.op, y.op})
		}
	}
}

// R5: also where it is asked at one time by many.
func TestAskedAtOneTime(t *testing.T) {
	var all sync.WaitGroup
	wrong := make([]int, 8)
	for i := range wrong {
		all.Go(func() {
			for range 20 {
				for _, x := range samples() {
					o, e := script.Parse(x.text)
					s, f := script.Print(x.op)
					if o != x.op || e != api.OK || s != x.text || f != api.OK {
						wrong[i]++
					}
					if _, e := script.Parse(x.text + "\x00"); e != api.ErrLine {
						wrong[i]++
					}
				}
				if l, _, _ := script.Read(strings.Join(texts(), "\n")); len(l) != len(samples()) {
					wrong[i]++
				}
			}
		})
	}
	all.Wait()
	for i, n := range wrong {
		if n > 0 {
			t.Errorf("%d: %d answers are others", i, n)
		}
	}
}

// R1: a text of very many lines costs no more than its lines.
func TestReadOfManyFeeds(t *testing.T) {
	feeds := strings.Repeat("\n", 1<<24)
	reads(t, feeds+"bag"+feeds, []api.Op{bag()})
	isNoText(t, feeds+"x"+feeds, 1<<24+1)
	isNoText(t, "x"+feeds, 1)
}
