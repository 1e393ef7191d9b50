package script_test

import (
	"math/rand/v2"
	"strings"
	"testing"

	"tideline/api"
)

// anyOf is one of some things.
func anyOf[T any](r *rand.Rand, l []T) T { return l[r.IntN(len(l))] }

// anyWord is a word as lines have them, or nearly.
func anyWord(r *rand.Rand) string {
	switch r.IntN(8) {
	case 0:
		return anyOf(r, forms()).word
	case 1, 2:
		return anyOf(r, goodNumbers()).text
	case 3:
		return "k" + anyOf(r, goodBytes()).digits
	case 4:
		return "=" + anyOf(r, goodBytes()).digits
	case 5, 6:
		return anyOf(r, goodRanges()).text
	}
	return anyOf(r, badWords(anyOf(r, []rune("nkvr"))))
}

// P21.1: lines of any words.
func TestAnyWords(t *testing.T) {
	is := 0
	for seed := range uint64(100000) {
		r := rand.New(rand.NewPCG(seed, 1))
		words := []string{anyOf(r, forms()).word}
		for range r.IntN(5) {
			words = append(words, anyWord(r))
		}
		if asParsed(t, strings.Join(words, " ")) {
			is++
		}
	}
	if is < 3000 {
		t.Fatalf("%d of them are commands", is)
	}
}

// changed is a text with something done to one of its places.
func changed(r *rand.Rand, s string) string {
	bytes := " \n\t=k.*-+0123456789abcdefABCDEFgx\x00\xFF"
	i := r.IntN(len(s) + 1)
	j := i + r.IntN(min(3, len(s)-i)+1)
	switch r.IntN(5) {
	case 0:
		return s[:i] + s[j:]
	case 1:
		return s[:j] + s[i:]
	case 2:
		return s[:i] + string(bytes[r.IntN(len(bytes))]) + s[j:]
	case 3:
		return s[:i] + strings.ToUpper(s[i:j]) + s[j:]
	}
	return s[:i] + string(bytes[r.IntN(len(bytes))]) + s[i:]
}

// P21.1: texts of commands with a few changes.
func TestAnyChanges(t *testing.T) {
	is, all := 0, texts()
	for seed := range uint64(100000) {
		r := rand.New(rand.NewPCG(seed, 2))
		line := anyOf(r, all)
		for range 1 + r.IntN(3) {
			line = changed(r, line)
		}
		if asParsed(t, line) {
			is++
		}
	}
	if is < 3000 {
		t.Fatalf("%d of them are commands", is)
	}
}

// anyNumber is one that a field may well have, or may not.
func anyNumber(r *rand.Rand) int {
	if r.IntN(6) == 0 {
		return anyOf(r, []int{-1, -2, lowest, lowest + 1, -1 << 32})
	}
	return anyOf(r, goodNumbers()).n
}

func anyText(r *rand.Rand) string {
	b := make([]byte, anyOf(r, []int{0, 1, 2, 8, 16, 17, 32, 33, 90, 180, 195, 196, 197, 200}))
	for i := range b {
		b[i] = byte(r.IntN(256))
	}
	return string(b)
}

func anyRange(r *rand.Rand) api.Range {
	if r.IntN(3) > 0 {
		return anyOf(r, goodRanges()).r
	}
	return api.Range{Lo: anyText(r), Hi: anyText(r), Open: r.IntN(3) == 0}
}

// P21.2, P21.5: any commands: most have just the fields of their kind, some have others, too.
func TestAnyCommands(t *testing.T) {
	is := 0
	for seed := range uint64(100000) {
		r := rand.New(rand.NewPCG(seed, 3))
		o := api.Op{Kind: r.IntN(kinds+3) - 1}
		fields := fieldsOf(o.Kind)
		if r.IntN(8) == 0 {
			fields += string("npikvr"[r.IntN(6)])
		}
		for _, field := range fields {
			switch field {
			case 'n', 'p', 'i':
				*fieldAt(&o, field) = anyNumber(r)
			case 'k':
				o.Key = anyText(r)
			case 'v':
				o.Value = anyText(r)
			case 'r':
				o.Range = anyRange(r)
			}
		}
		if asPrinted(t, o) {
			is++
		}
	}
	if is < 30000 {
		t.Fatalf("%d of them have a text", is)
	}
}

// P21.3: any texts: lines of commands, empty ones, and such as are none.
func TestAnyTexts(t *testing.T) {
	is, all := 0, texts()
	for seed := range uint64(3000) {
		r := rand.New(rand.NewPCG(seed, 4))
		var b strings.Builder
		rare := anyOf(r, []int{10, 100, 1000})
		for range r.IntN(anyOf(r, []int{5, 40, 400})) {
			switch {
			case r.IntN(4) == 0:
			case r.IntN(rare) == 0:
				b.WriteString(changed(r, anyOf(r, all)))
			default:
				b.WriteString(anyOf(r, all))
			}
			b.WriteString("\n")
		}
		text := b.String()
		if r.IntN(2) == 0 {
			text = strings.TrimSuffix(text, "\n")
		}
		if r.IntN(4) == 0 {
			text = changed(r, text)
		}
		if asRead(t, text) {
			is++
		}
	}
	if is < 1000 || is > 2500 {
		t.Fatalf("%d of them are texts of commands", is)
	}
}

// P21.3: texts of about MaxOps commands, with empty lines among them, and some that are none.
func TestAnyLongTexts(t *testing.T) {
	is, all := 0, texts()
	for seed := range uint64(40) {
		r := rand.New(rand.NewPCG(seed, 5))
		var b strings.Builder
		for range mostLines - 1 + r.IntN(3) {
			b.WriteString(strings.Repeat("\n", max(0, r.IntN(5)-3)) + anyOf(r, all) + "\n")
			if r.IntN(3*mostLines) == 0 {
				b.WriteString("x\n")
			}
		}
		if asRead(t, b.String()) {
			is++
		}
	}
	if is < 5 || is > 35 {
		t.Fatalf("%d of them are texts of commands", is)
	}
}

func anyEntry(r *rand.Rand) api.Entry {
	if r.IntN(3) > 0 {
		return anyOf(r, spoken()).e
	}
	return api.Entry{Key: anyText(r), Version: api.Version{Counter: anyNumber(r), Node: anyNumber(r)}, Value: anyText(r), Dead: r.IntN(2) == 0}
}

func anyAnswer(r *rand.Rand) api.Answer {
	n := func() int { return anyNumber(r) }
	a := api.Answer{
		Version: api.Version{Counter: n(), Node: n()}, Tally: api.Tally{Count: n(), Sum: api.Sum{r.Uint64() >> r.IntN(65), r.Uint64() >> r.IntN(65)}}, Session: name(n(), n(), n()), Heard: api.Heard{Taken: n(), Refused: n()},
		Counters: api.Counters{Sent: n(), Again: n(), Heard: n(), Stale: n(), Bad: n(), Moved: n(), Taken: n(), Full: n(), Closed: n(), Lost: n()},
	}
	for range r.IntN(6) {
		a.Entries = append(a.Entries, anyEntry(r))
		a.Talks = append(a.Talks, api.Talk{Session: name(n(), n(), n()), Peer: n(), Turn: n(), Tries: n(), Over: r.IntN(2) == 0})
		a.Packets = append(a.Packets, api.Packet{Num: n(), From: n(), To: n(), Data: make([]byte, r.IntN(300))})
	}
	return a
}

// P21.4: any answers, to commands of any kind.
func TestAnyAnswers(t *testing.T) {
	for seed := range uint64(20000) {
		r := rand.New(rand.NewPCG(seed, 6))
		a, kind, e := anyAnswer(r), r.IntN(kinds+3)-1, api.OK
		if r.IntN(8) == 0 {
			e = api.Errno(anyNumber(r))
		}
		tells(t, op(kind), a, e, plainTell(kind, a, e))
	}
}
