package script_test

import (
	"fmt"
	"strings"
	"testing"

	"tideline/api"
)

// A word that a field may be, and what it says there; or a word that it may not be.

type numberWord struct {
	text string
	n    int
}

func goodNumbers() []numberWord {
	return []numberWord{
		{"0", 0}, {"1", 1}, {"7", 7}, {"8", 8}, {"9", 9}, {"10", 10}, {"19", 19}, {"90", 90}, {"100", 100}, {"255", 255}, {"256", 256}, {"512", 512}, {"65536", 65536},
		{"2147483647", 1<<31 - 1}, {"2147483648", 1 << 31}, {"4294967296", 1 << 32}, {"1099511627776", 1 << 40}, {"1234567890123456789", 1234567890123456789},
		{"9223372036854775799", greatest - 8}, {"9223372036854775806", greatest - 1}, {"9223372036854775807", greatest},
	}
}

func badNumbers() []string {
	return []string{
		"", "9223372036854775808", "9223372036854775809", "9223372036854775810", "9999999999999999999", "10000000000000000000", "18446744073709551615", "18446744073709551616", "18446744073709551617",
		strings.Repeat("9", 300), "1" + strings.Repeat("0", 300), "00", "01", "007", "0" + "9223372036854775807", strings.Repeat("0", 20), "-0", "-1", "-", "+", "+0", "+1", "-9223372036854775808",
		"1.0", "1.", ".1", "1e3", "0x1", "0b1", "0o1", "1_000", "1,000", "a", "1a", "a1", "k1", "=1", "*", "..", "\u0661", "\u00B2", "\uFF11", "1\t", "\t1", "1\x00", "\x00", "1\n", "\n1", "1\r", "/", ":", "1/", "1:", "\"1\"",
	}
}

type bytesWord struct{ digits, data string }

func goodBytes() []bytesWord {
	return []bytesWord{
		{"", ""}, {"61", "a"}, {"00", "\x00"}, {"ff", "\xFF"}, {"0a", "\n"}, {"20", " "}, {"6b", "k"}, {"3d", "="}, {"6100", "a\x00"}, {"0123456789abcdef", "\x01\x23\x45\x67\x89\xAB\xCD\xEF"},
		{longHex, longKey}, {overHex, overKey}, {strings.Repeat("76", 32), longValue}, {strings.Repeat("76", 33), overValue}, {strings.Repeat("c3", 100), strings.Repeat("\xC3", 100)},
	}
}

func badBytes() []string {
	return []string{
		"6", "616", "61626", "6A", "4F", "FF", "fF", "Ff", "6g", "g6", "6G", "k", "=", "k61", "=61", "x", "0x61", "6-", "-61", "+6", "6/", "6:", "6@", "6`", "/6", ":6", "`6", "61..62", "*", "61\n", "\n61", "61\x00", "61\t", "\t61", "\u0661\u0661", "\"61\"",
	}
}

type rangeWord struct {
	text string
	r    api.Range
}

func goodRanges() []rangeWord {
	return []rangeWord{
		{"..", rng("", "")}, {"..*", from("")}, {"..61", rng("", "a")}, {"..00", rng("", "\x00")}, {"61..61", rng("a", "a")}, {"61..62", rng("a", "b")}, {"61..6100", rng("a", "a\x00")}, {"61..*", from("a")}, {"ff..*", from("\xFF")}, {"2a..2e", rng("*", ".")},
		{"09..f0", rng("\x09", "\xF0")}, {longHex + "..*", from(longKey)}, {longHex + ".." + longHex, rng(longKey, longKey)}, {".." + longHex, rng("", longKey)}, {longHex + "..a1", rng(longKey, "\xA1")},
	}
}

func badRanges() []string {
	return []string{
		"", ".", "*", "61", "61.", ".61", "61.62", "...", "....", "61...62", "61..62..63", "..61..", "62..61", "61..", "6100..61", "ff..fe", "00..", "6..7", "61..7", "6..61", "6A..", "6a..6B", "61..6G", "..*x", "..x*", "..**", "*..", "*..*", "..*61", "..61*", "61..*62", "61..62*", "61-62", "61..\u0666\u0661", "61,.62", "\u2025", "61..62\n", "\n61..62",
		"k61..k62", "=61..62", "61..=62", "-61..62", "61 ..62", "[61..62]", overHex + "..*", ".." + overHex, longHex + ".." + overHex, overHex + ".." + overHex, "a0.." + overHex,
	}
}

// spelt is a command of a kind, made of words: each is one that its field may be.
type spelt struct {
	words []string
	op    api.Op
}

func (f form) plain() spelt {
	s := spelt{[]string{f.word}, api.Op{Kind: f.kind}}
	for _, field := range f.fields {
		switch field {
		case 'n':
			s.words, s.op.Node = append(s.words, "3"), 3
		case 'p':
			s.words, s.op.Peer = append(s.words, "5"), 5
		case 'i':
			s.words, s.op.N = append(s.words, "4"), 4
		case 'k':
			s.words, s.op.Key = append(s.words, "k6162"), "ab"
		case 'v':
			s.words, s.op.Value = append(s.words, "=7879"), "xy"
		case 'r':
			s.words, s.op.Range = append(s.words, "61..62"), rng("a", "b")
		}
	}
	return s
}

// with is the line with another word at that place.
func (s spelt) with(place int, word string) string {
	words := append([]string{}, s.words...)
	words[place] = word
	return strings.Join(words, " ")
}

func (s spelt) line() string { return strings.Join(s.words, " ") }

// fieldAt is where a number stands in a command.
func fieldAt(o *api.Op, field rune) *int {
	return map[rune]*int{'n': &o.Node, 'p': &o.Peer, 'i': &o.N}[field]
}

// P21.1, P21.2: every kind, with each of its words in whatever form it may have.
func TestWordsThatMayBe(t *testing.T) {
	both := func(line string, o api.Op) {
		t.Helper()
		parses(t, line, o)
		prints(t, o, line)
	}
	for _, f := range forms() {
		s := f.plain()
		both(s.line(), s.op)
		for i, field := range f.fields {
			o := s.op
			switch field {
			case 'n', 'p', 'i':
				for _, x := range goodNumbers() {
					*fieldAt(&o, field) = x.n
					both(s.with(i+1, x.text), o)
				}
			case 'k':
				for _, x := range goodBytes() {
					o.Key = x.data
					both(s.with(i+1, "k"+x.digits), o)
				}
			case 'v':
				for _, x := range goodBytes() {
					o.Value = x.data
					both(s.with(i+1, "="+x.digits), o)
				}
			case 'r':
				for _, x := range goodRanges() {
					o.Range = x.r
					both(s.with(i+1, x.text), o)
				}
			}
		}
	}
}

// badWords are such as no field of that kind may be.
func badWords(field rune) []string {
	var l []string
	switch field {
	case 'n', 'p', 'i':
		return badNumbers()
	case 'k':
		l = []string{"", "K", "K61", "61", "=61", "=", "x", "xk61", "k k61", "kk61", "0", "..", "61..62"}
		for _, s := range badBytes() {
			l = append(l, "k"+s)
		}
	case 'v':
		l = []string{"", "61", "k61", "k", "x", "x=61", "==61", "0", "\uFF1D61", "..", ":61"}
		for _, s := range badBytes() {
			l = append(l, "="+s)
		}
	case 'r':
		return badRanges()
	}
	return l
}

// P21.1: every kind, with each of its words in forms that it may not have.
func TestWordsThatMayNotBe(t *testing.T) {
	for _, f := range forms() {
		s := f.plain()
		for i, field := range f.fields {
			for _, word := range badWords(field) {
				isNone(t, s.with(i+1, word))
			}
		}
	}
}

// P21.1: every byte ahead of and behind a number, a key, a value, a range is no part of it, but digits.
func TestBytesBesideWords(t *testing.T) {
	for _, f := range forms() {
		s := f.plain()
		for i := range s.words {
			for b := range 256 {
				asParsed(t, s.with(i, s.words[i]+string([]byte{byte(b)})))
				asParsed(t, s.with(i, string([]byte{byte(b)})+s.words[i]))
			}
		}
	}
}

// P21.1: each byte of each sample replaced by each other one, taken away, or doubled.
func TestOneByteIsAnother(t *testing.T) {
	for _, x := range samples() {
		if len(x.text) > 60 {
			continue
		}
		for i := range x.text {
			for b := range 256 {
				asParsed(t, x.text[:i]+string([]byte{byte(b)})+x.text[i+1:])
			}
			asParsed(t, x.text[:i]+x.text[i+1:])
			asParsed(t, x.text[:i+1]+x.text[i:])
			asParsed(t, x.text[:i])
			asParsed(t, x.text[i:])
		}
	}
}

// P21.1: a word too many at each place, a word too few.
func TestHowManyWords(t *testing.T) {
	for _, f := range forms() {
		s := f.plain()
		for i := range s.words {
			isNone(t, strings.Join(append(append([]string{}, s.words[:i]...), s.words[i+1:]...), " "))
		}
		for i := range len(s.words) + 1 {
			for _, word := range append([]string{"0", "3", "k61", "=61", "..", "61..62", "x", "bag", "tick", "#", "-"}, s.words...) {
				words := append([]string{}, s.words[:i]...)
				words = append(append(words, word), s.words[i:]...)
				isNone(t, strings.Join(words, " "))
			}
		}
		isNone(t, s.line()+" "+s.line())
		isNone(t, s.line()+strings.Repeat(" 0", 20))
	}
}

// P21.1: between two words stands one blank, and nothing else; ahead of the line and behind it stands nothing.
func TestBlanks(t *testing.T) {
	others := []string{"", "  ", "   ", "\t", " \t", "\t ", "\n", "\r", "\r\n", "\v", "\f", "\x00", ",", "_", "\u00A0", "\u2003", "\u3000", "\x85", "\xA0"}
	for _, f := range forms() {
		s := f.plain()
		for i := 1; i < len(s.words); i++ {
			for _, between := range others {
				isNone(t, strings.Join(s.words[:i], " ")+between+strings.Join(s.words[i:], " "))
			}
		}
		for _, more := range append(others[1:], " ", "#", "\n\n", ";") {
			isNone(t, more+s.line())
			isNone(t, s.line()+more)
			isNone(t, more+s.line()+more)
		}
	}
	for _, line := range []string{"", " ", "  ", "\t", "\n", "\x00", "\r"} {
		isNone(t, line)
	}
}

// P21.1: the first word is one of the table's, just as it stands there.
func TestFirstWords(t *testing.T) {
	for _, f := range forms() {
		s := f.plain()
		for i := range f.word {
			isNone(t, s.with(0, f.word[:i]+strings.ToUpper(f.word[i:i+1])+f.word[i+1:]))
			isNone(t, s.with(0, f.word[:i]))
		}
		for _, word := range []string{strings.ToUpper(f.word), f.word + "s", f.word + "0", f.word + ":", f.word + "\x00", "x" + f.word, f.word + f.word, "#" + f.word, "/" + f.word, "\"" + f.word + "\"", "\uFEFF" + f.word} {
			isNone(t, s.with(0, word))
		}
	}
	others := []string{
		"delete", "deliver", "double", "remove", "set", "write", "read", "sum", "print", "close", "begin", "send", "stop", "up", "down", "show", "list", "talk", "counts", "counters", "bags", "world", "calm", "same", "ok", "error", "none",
		"Put", "OpPut", "op", "1", "0", "k61", "=61", "..", "61..62", "*", "?", "#", "-", "--", "\u0440ut", "p\u00FCt", "", "nil", "<nil>", "true",
	}
	for _, word := range others {
		for _, f := range forms() {
			isNone(t, f.plain().with(0, word))
		}
	}
}

// shape is what kinds of words stand behind the first one: a number is one, whichever field it is.
func (f form) shape() string { return strings.NewReplacer("p", "n", "i", "n").Replace(f.fields) }

// P21.1: what each word begins has just that word's fields.
func TestWordsOfOtherCommands(t *testing.T) {
	for _, f := range forms() {
		for _, other := range forms() {
			line := other.plain().with(0, f.word)
			if is := asParsed(t, line); is != (f.shape() == other.shape()) {
				t.Errorf("%s: is a command's text: %t", line, is)
			}
		}
	}
}

// longLines are commands whose texts have a number of bytes, as the caller likes it: each of the four kinds that may be so long.
func longLines(bytes int) []sample {
	var l []sample
	for node := 1; node <= 1000000; node *= 10 {
		n := fmt.Sprint(node)
		if room := bytes - len("raw  =") - len(n); room%2 == 0 {
			data := strings.Repeat("r", room/2)
			l = append(l, sample{"raw " + n + " =" + hexOf(data), raw(node, data)})
		}
		if room := bytes - len("del  k") - len(n); room%2 == 0 {
			data := strings.Repeat("d", room/2)
			l = append(l, sample{"del " + n + " k" + hexOf(data), remove(node, data)}, sample{"get " + n + " k" + hexOf(data), get(node, data)})
		}
		room := bytes - len("put  k =") - len(n)
		if room%2 != 0 {
			continue
		}
		for _, cut := range []int{0, 1, 16, room / 4, room/2 - 1, room / 2} {
			key, value := strings.Repeat("\xE0", cut), strings.Repeat("\x0E", room/2-cut)
			l = append(l, sample{"put " + n + " k" + hexOf(key) + " =" + hexOf(value), put(node, key, value)})
		}
	}
	return l
}

// P21.1, P21.2: a line has at most MaxLine bytes.
func TestHowLongALineMayBe(t *testing.T) {
	for bytes := longest - 6; bytes <= longest+6; bytes++ {
		all := longLines(bytes)
		if len(all) < 20 {
			t.Fatalf("%d lines of %d bytes", len(all), bytes)
		}
		for _, x := range all {
			if len(x.text) != bytes {
				t.Fatalf("%s has %d bytes, not %d", short(x.text), len(x.text), bytes)
			}
			if bytes <= longest {
				parses(t, x.text, x.op)
				prints(t, x.op, x.text)
			} else {
				isNone(t, x.text)
				hasNone(t, x.op)
			}
		}
	}
}

// P21.1: lines that are none, of about MaxLine bytes and of many more.
func TestLongLinesThatAreNone(t *testing.T) {
	for _, n := range []int{1, 2, longest - 1, longest, longest + 1, 2 * longest, 1 << 16, 1 << 24} {
		for _, part := range []string{" ", "0", "k", "bag ", "6", "=", ".", "\n", "\x00", "put 0 k61 =", "\xFF"} {
			line := strings.Repeat(part, n/len(part)+1)[:n]
			isNone(t, line)
			isNone(t, "bag "+line)
			isNone(t, "tick "+strings.Repeat("9", 19)+line)
			isNone(t, line+" bag")
		}
	}
	for _, x := range samples() {
		isNone(t, x.text+strings.Repeat(" ", longest))
		isNone(t, x.text+strings.Repeat("\n", longest))
		isNone(t, strings.Repeat(" ", longest)+x.text)
	}
}

// P21.1: a key or a value of more bytes than a store takes is one here; a range's bound is not.
func TestLongKeysAndValues(t *testing.T) {
	for n := range 190 {
		key := strings.Repeat("\x4B", n)
		parses(t, "del 0 k"+hexOf(key), remove(0, key))
		parses(t, "get 7 k"+hexOf(key), get(7, key))
		parses(t, "put 7 k"+hexOf(key)+" =", put(7, key, ""))
		parses(t, "put 7 k ="+hexOf(key), put(7, "", key))
		parses(t, "raw 6 ="+hexOf(key), raw(6, key))
		if n <= 16 {
			parses(t, "scan 0 "+hexOf(key)+"..*", scan(0, from(key)))
			parses(t, "fold 0 .."+hexOf(key), fold(0, rng("", key)))
		} else {
			isNone(t, "scan 0 "+hexOf(key)+"..*")
			isNone(t, "fold 0 .."+hexOf(key))
		}
	}
}
