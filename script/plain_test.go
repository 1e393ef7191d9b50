package script_test

import (
	"encoding/hex"
	"fmt"
	"math/big"
	"regexp"
	"strings"
	"sync"
	"testing"

	"tideline/api"
	"tideline/script"
)

// A second reading of the promises: a command's text is what a pattern of its kind says, numbers are as long as they like, and what an answer comes to is laid out by the chapter's table; none of it asks the layers below.

type form struct {
	kind   int
	word   string
	fields string // n: Node, p: Peer, i: N, k: Key, v: Value, r: Range
}

func forms() []form {
	return []form{
		{1, "put", "nkv"}, {2, "del", "nk"}, {3, "get", "nk"}, {4, "scan", "nr"}, {5, "fold", "nr"}, {6, "open", "np"},
		{7, "go", "i"}, {8, "drop", "i"}, {9, "twice", "i"}, {10, "raw", "nv"}, {11, "tick", "n"}, {12, "crash", "n"},
		{13, "start", "n"}, {14, "map", "n"}, {15, "talks", "n"}, {16, "count", "n"}, {17, "bag", ""},
	}
}

const (
	numberForm = `(0|[1-9][0-9]*)`
	bytesForm  = `((?:[0-9a-f][0-9a-f])*)`
)

func patternOf(f form) *regexp.Regexp {
	s := `\A` + f.word
	for _, field := range f.fields {
		switch field {
		case 'n', 'p', 'i':
			s += ` ` + numberForm
		case 'k':
			s += ` k` + bytesForm
		case 'v':
			s += ` =` + bytesForm
		case 'r':
			s += ` ` + bytesForm + `\.\.(\*)?` + bytesForm
		}
	}
	return regexp.MustCompile(s + `\z`)
}

var patterns = sync.OnceValue(func() map[int]*regexp.Regexp {
	m := map[int]*regexp.Regexp{}
	for _, f := range forms() {
		m[f.kind] = patternOf(f)
	}
	return m
})

func bytesOf(digits string) string {
	b, err := hex.DecodeString(digits)
	if err != nil {
		panic(err)
	}
	return string(b)
}

// numberOf tells a number, and whether it is at most 2^63 - 1.
func numberOf(digits string) (int, bool) {
	n, _ := new(big.Int).SetString(digits, 10)
	return int(n.Int64()), n.IsInt64()
}

func mayBe(r api.Range) bool {
	if len(r.Lo) > 16 || len(r.Hi) > 16 {
		return false
	}
	if r.Open {
		return r.Hi == ""
	}
	return r.Lo <= r.Hi
}

// filled tells the command of some found words, and whether it is one.
func (f form) filled(found []string) (api.Op, bool) {
	o, is := api.Op{Kind: f.kind}, true
	next := func() string {
		s := found[0]
		found = found[1:]
		return s
	}
	number := func() int {
		n, small := numberOf(next())
		is = is && small
		return n
	}
	for _, field := range f.fields {
		switch field {
		case 'n':
			o.Node = number()
		case 'p':
			o.Peer = number()
		case 'i':
			o.N = number()
		case 'k':
			o.Key = bytesOf(next())
		case 'v':
			o.Value = bytesOf(next())
		case 'r':
			o.Range = api.Range{Lo: bytesOf(next()), Open: next() == "*", Hi: bytesOf(next())}
			is = is && mayBe(o.Range)
		}
	}
	return o, is
}

func plainParse(line string) (api.Op, bool) {
	if len(line) > longest {
		return api.Op{}, false
	}
	for _, f := range forms() {
		if !strings.HasPrefix(line, f.word) {
			continue
		}
		if found := patterns()[f.kind].FindStringSubmatch(line); found != nil {
			if o, is := f.filled(found[1:]); is {
				return o, true
			}
		}
	}
	return api.Op{}, false
}

func plainRange(r api.Range) string {
	if r.Open {
		return fmt.Sprintf("%x..*", r.Lo)
	}
	return fmt.Sprintf("%x..%x", r.Lo, r.Hi)
}

// plainPrint takes each field that is told out of the command: what is left has to be nothing but its Kind.
func plainPrint(o api.Op) (string, bool) {
	left := o
	is := false
	s := ""
	for _, f := range forms() {
		if f.kind != o.Kind {
			continue
		}
		is, s = true, f.word
		for _, field := range f.fields {
			switch field {
			case 'n':
				s, left.Node, is = fmt.Sprintf("%s %d", s, o.Node), 0, is && o.Node >= 0
			case 'p':
				s, left.Peer, is = fmt.Sprintf("%s %d", s, o.Peer), 0, is && o.Peer >= 0
			case 'i':
				s, left.N, is = fmt.Sprintf("%s %d", s, o.N), 0, is && o.N >= 0
			case 'k':
				s, left.Key = fmt.Sprintf("%s k%x", s, o.Key), ""
			case 'v':
				s, left.Value = fmt.Sprintf("%s =%x", s, o.Value), ""
			case 'r':
				s, left.Range, is = s+" "+plainRange(o.Range), api.Range{}, is && mayBe(o.Range)
			}
		}
	}
	if !is || left != (api.Op{Kind: o.Kind}) || len(s) > longest {
		return "", false
	}
	return s, true
}

func plainRead(text string) ([]api.Op, int) {
	var l []api.Op
	for i, line := range strings.Split(text, "\n") {
		if line == "" {
			continue
		}
		o, is := plainParse(line)
		if !is || len(l) == mostLines {
			return nil, i + 1
		}
		l = append(l, o)
	}
	return l, 0
}

func atLeast0(n int) int { return max(n, 0) }

func plainEntry(e api.Entry) string {
	v := e.Version
	isOne := len(e.Key) <= 16 && v.Counter >= 1 && v.Counter <= 1<<40 && v.Node >= 0 && v.Node <= 7 && len(e.Value) <= 32 && !(e.Dead && e.Value != "")
	switch {
	case !isOne:
		return "?"
	case e.Dead:
		return fmt.Sprintf("k%x %d.%d x", e.Key, v.Counter, v.Node)
	}
	return fmt.Sprintf("k%x %d.%d =%x", e.Key, v.Counter, v.Node, e.Value)
}

func plainName(n api.Name) string {
	return fmt.Sprintf("%d.%d.%d", atLeast0(n.Opener), atLeast0(n.Life), atLeast0(n.Number))
}

func plainTalk(x api.Talk) string {
	state := map[bool]string{true: "over", false: "open"}[x.Over]
	return fmt.Sprintf("%s %d %d %d %s", plainName(x.Session), atLeast0(x.Peer), atLeast0(x.Turn), atLeast0(x.Tries), state)
}

func plainCounters(c api.Counters) string {
	s := ""
	for _, n := range []int{c.Sent, c.Again, c.Heard, c.Stale, c.Bad, c.Moved, c.Taken, c.Full, c.Closed, c.Lost} {
		s += fmt.Sprintf(" %d", atLeast0(n))
	}
	return s
}

func plainList[T any](l []T, textOf func(T) string) string {
	s := fmt.Sprintf("ok %d\n", len(l))
	for _, x := range l {
		s += textOf(x) + "\n"
	}
	return s
}

func plainTell(kind int, a api.Answer, e api.Errno) string {
	if e != 0 {
		return fmt.Sprintf("error %d\n", atLeast0(int(e)))
	}
	switch kind {
	case 1, 2:
		return fmt.Sprintf("ok %d.%d\n", atLeast0(a.Version.Counter), atLeast0(a.Version.Node))
	case 3, 4, 14:
		return plainList(a.Entries, plainEntry)
	case 5:
		return fmt.Sprintf("ok %d %016x%016x\n", atLeast0(a.Tally.Count), a.Tally.Sum[0], a.Tally.Sum[1])
	case 6:
		return "ok " + plainName(a.Session) + "\n"
	case 7, 10:
		return fmt.Sprintf("ok %d %d\n", atLeast0(a.Heard.Taken), atLeast0(a.Heard.Refused))
	case 15:
		return plainList(a.Talks, plainTalk)
	case 16:
		return "ok" + plainCounters(a.Counters) + "\n"
	case 17:
		return plainList(a.Packets, func(p api.Packet) string {
			return fmt.Sprintf("%d %d %d %d", atLeast0(p.Num), atLeast0(p.From), atLeast0(p.To), len(p.Data))
		})
	}
	return "ok\n"
}

// asParsed holds a line against the second reading, and tells whether it is a command's text.
func asParsed(t *testing.T, line string) bool {
	t.Helper()
	want, is := plainParse(line)
	if !is {
		isNone(t, line)
		return false
	}
	parses(t, line, want)
	prints(t, want, line)
	return true
}

// asPrinted holds a command against the second reading, and tells whether it has a text.
func asPrinted(t *testing.T, o api.Op) bool {
	t.Helper()
	want, is := plainPrint(o)
	if !is {
		hasNone(t, o)
		return false
	}
	prints(t, o, want)
	parses(t, want, o)
	return true
}

// asRead holds a text against the second reading, and tells whether it is one of commands.
func asRead(t *testing.T, text string) bool {
	t.Helper()
	want, n := plainRead(text)
	if n > 0 {
		isNoText(t, text, n)
		return false
	}
	reads(t, text, want)
	return true
}

// The second reading is held against the samples itself.
func TestSecondReading(t *testing.T) {
	for _, x := range samples() {
		if o, is := plainParse(x.text); o != x.op || !is {
			t.Errorf("%s: %s, %t", x.text, brief(o), is)
		}
		if s, is := plainPrint(x.op); s != x.text || !is {
			t.Errorf("%s: %s, %t", brief(x.op), s, is)
		}
	}
	if l, n := plainRead("bag\n\ntick 3"); len(l) != 2 || l[1] != tick(3) || n != 0 {
		t.Errorf("%v, %d", l, n)
	}
	if s := plainTell(3, api.Answer{Entries: []api.Entry{{Key: "a", Version: api.Version{Counter: 1}, Value: "b"}}}, 0); s != "ok 1\nk61 1.0 =62\n" {
		t.Error(s)
	}
}

// P21.1, P21.2: all samples, and the chapter's examples.
func TestSamples(t *testing.T) {
	seen := map[int]int{}
	for _, x := range samples() {
		parses(t, x.text, x.op)
		prints(t, x.op, x.text)
		asParsed(t, x.text)
		asPrinted(t, x.op)
		seen[x.op.Kind]++
	}
	if len(seen) != kinds {
		t.Fatalf("samples of %d kinds, want %d", len(seen), kinds)
	}
	for _, line := range []string{"", "put 0 k61", "put 0 k61 = ", "put 00 k61 =", "del 0 61", "Bag", "scan 0 62..61"} {
		isNone(t, line)
	}
	hasNone(t, api.Op{Kind: api.OpScan, Range: rng("b", "a")})
	hasNone(t, api.Op{Kind: api.OpBag, Node: 1})
	if l, n, e := script.Read("bag\nx"); len(l) != 0 || n != 2 || e != api.ErrLine {
		t.Errorf("%v, %d, %d", l, n, e)
	}
}
