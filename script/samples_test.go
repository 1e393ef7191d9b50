package script_test

import (
	"encoding/hex"
	"fmt"
	"math"
	"strings"
	"testing"

	"tideline/api"
	"tideline/script"
)

// The document's limits, by its own words.
const (
	longest   = 400  // bytes of a line
	mostLines = 4000 // commands of a text
	kinds     = 17   // of commands: 1 to 17
	greatest  = math.MaxInt64
	lowest    = math.MinInt64
)

var (
	longKey   = strings.Repeat("\xA0", 16)
	overKey   = strings.Repeat("\xA0", 17)
	longValue = strings.Repeat("v", 32)
	overValue = strings.Repeat("v", 33)
	longHex   = strings.Repeat("a0", 16)
	overHex   = strings.Repeat("a0", 17)
)

func hexOf(s string) string { return hex.EncodeToString([]byte(s)) }

func rng(lo, hi string) api.Range { return api.Range{Lo: lo, Hi: hi} }

func from(lo string) api.Range { return api.Range{Lo: lo, Open: true} }

func put(node int, key, value string) api.Op {
	return api.Op{Kind: 1, Node: node, Key: key, Value: value}
}
func remove(node int, key string) api.Op { return api.Op{Kind: 2, Node: node, Key: key} }
func get(node int, key string) api.Op    { return api.Op{Kind: 3, Node: node, Key: key} }
func scan(node int, r api.Range) api.Op  { return api.Op{Kind: 4, Node: node, Range: r} }
func fold(node int, r api.Range) api.Op  { return api.Op{Kind: 5, Node: node, Range: r} }
func open(node, peer int) api.Op         { return api.Op{Kind: 6, Node: node, Peer: peer} }
func raw(node int, data string) api.Op   { return api.Op{Kind: 10, Node: node, Value: data} }
func tick(node int) api.Op               { return api.Op{Kind: 11, Node: node} }
func bag() api.Op                        { return api.Op{Kind: 17} }

// of is a command of a kind that has a Node alone, or an N alone, or neither.
func of(kind, n int) api.Op {
	switch {
	case kind >= 7 && kind <= 9:
		return api.Op{Kind: kind, N: n}
	case kind == 17:
		return api.Op{Kind: kind}
	}
	return api.Op{Kind: kind, Node: n}
}

type sample struct {
	text string
	op   api.Op
}

// samples are commands of each kind with their texts, at the edges of each of their words, and within.
func samples() []sample {
	return []sample{
		{"put 0 k61 =", put(0, "a", "")},
		{"put 0 k =", put(0, "", "")},
		{"put 7 k6162 =00ff", put(7, "ab", "\x00\xFF")},
		{"put 9223372036854775807 k00 =0a20", put(greatest, "\x00", "\n ")},
		{"put 8 k" + longHex + " =" + hexOf(longValue), put(8, longKey, longValue)},
		{"put 1 k" + overHex + " =" + hexOf(overValue), put(1, overKey, overValue)},
		{"del 0 k", remove(0, "")},
		{"del 3 k61", remove(3, "a")},
		{"del 12 k" + overHex, remove(12, overKey)},
		{"get 0 k", get(0, "")},
		{"get 9 k09abcdef", get(9, "\x09\xAB\xCD\xEF")},
		{"get 1 k" + longHex, get(1, longKey)},
		{"scan 0 ..", scan(0, rng("", ""))},
		{"scan 0 ..*", scan(0, from(""))},
		{"scan 1 61..*", scan(1, from("a"))},
		{"scan 2 61..61", scan(2, rng("a", "a"))},
		{"scan 10 " + longHex + "..*", scan(10, from(longKey))},
		{"fold 0 ..61", fold(0, rng("", "a"))},
		{"fold 5 61..6100", fold(5, rng("a", "a\x00"))},
		{"fold 7 6f.." + longHex, fold(7, rng("o", longKey))},
		{"fold 100 ..*", fold(100, from(""))},
		{"open 0 0", open(0, 0)},
		{"open 2 7", open(2, 7)},
		{"open 7 2", open(7, 2)},
		{"open 9223372036854775807 9223372036854775806", open(greatest, greatest-1)},
		{"go 0", of(7, 0)},
		{"go 12", of(7, 12)},
		{"drop 0", of(8, 0)},
		{"drop 511", of(8, 511)},
		{"twice 0", of(9, 0)},
		{"twice 9223372036854775807", of(9, greatest)},
		{"raw 0 =", raw(0, "")},
		{"raw 1 =00ff", raw(1, "\x00\xFF")},
		{"raw 4 =" + strings.Repeat("7a", 150), raw(4, strings.Repeat("z", 150))},
		{"tick 0", tick(0)},
		{"tick 3", tick(3)},
		{"crash 0", of(12, 0)},
		{"crash 10", of(12, 10)},
		{"start 0", of(13, 0)},
		{"start 1", of(13, 1)},
		{"map 0", of(14, 0)},
		{"map 7", of(14, 7)},
		{"talks 0", of(15, 0)},
		{"talks 99", of(15, 99)},
		{"count 0", of(16, 0)},
		{"count 9999999", of(16, 9999999)},
		{"bag", bag()},
	}
}

// texts are those of the samples.
func texts() []string {
	var l []string
	for _, x := range samples() {
		l = append(l, x.text)
	}
	return l
}

// linesOf are so many of the samples' texts, over and over, from the first-th one on.
func linesOf(first, n int) []string {
	all := texts()
	var l []string
	for i := range n {
		l = append(l, all[(first+i)%len(all)])
	}
	return l
}

// opsOf are the commands of linesOf.
func opsOf(first, n int) []api.Op {
	all := samples()
	var l []api.Op
	for i := range n {
		l = append(l, all[(first+i)%len(all)].op)
	}
	return l
}

// short is a text as a failing test tells it.
func short(s string) string {
	if len(s) > 120 {
		return fmt.Sprintf("%q .. (%d bytes)", s[:120], len(s))
	}
	return fmt.Sprintf("%q", s)
}

// brief is a command as a failing test tells it.
func brief(o api.Op) string { return short(fmt.Sprintf("%+v", o)) }

// parses sees to it that a line is the text of a command.
func parses(t *testing.T, line string, want api.Op) {
	t.Helper()
	if o, e := script.Parse(line); o != want || e != api.OK {
		t.Fatalf("Parse(%s): %s, error %d, want %s", short(line), brief(o), e, brief(want))
	}
}

// isNone sees to it that a line is the text of no command.
func isNone(t *testing.T, line string) {
	t.Helper()
	if o, e := script.Parse(line); o != (api.Op{}) || e != api.ErrLine {
		t.Fatalf("Parse(%s): %s, error %d, want none and %d", short(line), brief(o), e, api.ErrLine)
	}
}

// prints sees to it that a command has a text.
func prints(t *testing.T, o api.Op, want string) {
	t.Helper()
	if s, e := script.Print(o); s != want || e != api.OK {
		t.Fatalf("Print(%s): %s, error %d, want %s", brief(o), short(s), e, short(want))
	}
}

// hasNone sees to it that a command has no text.
func hasNone(t *testing.T, o api.Op) {
	t.Helper()
	if s, e := script.Print(o); s != "" || e != api.ErrLine {
		t.Fatalf("Print(%s): %s, error %d, want none and %d", brief(o), short(s), e, api.ErrLine)
	}
}

// reads sees to it that a text is that of commands.
func reads(t *testing.T, text string, want []api.Op) {
	t.Helper()
	l, n, e := script.Read(text)
	if n != 0 || e != api.OK || len(l) != len(want) {
		t.Fatalf("Read(%s): %d commands, %d, error %d, want %d commands", short(text), len(l), n, e, len(want))
	}
	for i := range l {
		if l[i] != want[i] {
			t.Fatalf("Read(%s): %d is %s, want %s", short(text), i, brief(l[i]), brief(want[i]))
		}
	}
}

// isNoText sees to it that a text's first line that is wrong is that one.
func isNoText(t *testing.T, text string, want int) {
	t.Helper()
	if l, n, e := script.Read(text); len(l) != 0 || n != want || e != api.ErrLine {
		t.Fatalf("Read(%s): %d commands, line %d, error %d, want line %d and %d", short(text), len(l), n, e, want, api.ErrLine)
	}
}

// tells sees to it that an answer has that text.
func tells(t *testing.T, o api.Op, a api.Answer, e api.Errno, want string) {
	t.Helper()
	if s := script.Tell(o, a, e); s != want {
		t.Fatalf("Tell(%s, .., %d): %s, want %s", brief(o), e, short(s), short(want))
	}
}
