package wire_test

import (
	"math"
	"math/rand/v2"
	"slices"
	"strings"
	"testing"

	"tideline/api"
)

// padded is a number with more bytes than it needs.
func padded(n, more int) string {
	b := []byte(numBytes(n))
	for range more {
		b[len(b)-1] |= 128
		b = append(b, 0)
	}
	return string(b)
}

// P12.2: bytes that are cut short, at each place.
func TestCutShort(t *testing.T) {
	for _, f := range goodFrames() {
		b := bytesOf(f)
		for n := range len(b) {
			// Of long ones the midst is the same again and again.
			if n < 400 || n > len(b)-400 || n%101 == 0 {
				refused(t, "cut short", b[:n])
			}
		}
	}
}

// P12.2: bytes behind the last one: any byte, a part that might follow, another frame.
func TestMoreBehind(t *testing.T) {
	for _, f := range goodFrames() {
		b := bytesOf(f)
		for more := range 256 {
			refused(t, "a byte behind", b+string([]byte{byte(more)}))
		}
		refused(t, "a part behind", b+partBytes(items(from(highest))))
		refused(t, "an entry behind", b+entryBytes(at(highest)))
		refused(t, "itself behind", b+b)
		refused(t, "another one behind", b+firstBytes)
		refused(t, "much behind", b+strings.Repeat("\x00", 1000))
	}
}

// P12.2: bytes ahead of the first.
func TestMoreAhead(t *testing.T) {
	for ahead := range 256 {
		asRead(t, string([]byte{byte(ahead)})+secondBytes)
		refused(t, "a byte ahead of the first row", string([]byte{byte(ahead)})+firstBytes)
	}
	refused(t, "another one ahead", firstBytes+thirdBytes)
}

// P12.2: as many bytes as a frame may have, and more.
func TestTooLong(t *testing.T) {
	full := bytesOf(widest())
	if f := decode(t, full); !alike(f, widest()) {
		t.Errorf("the longest frame is read as %s", brief(f))
	}
	for _, size := range []int{len(full) + 1, mostBytes - 1, mostBytes, mostBytes + 1, 1 << 20} {
		refused(t, "noughts", strings.Repeat("\x00", size))
		refused(t, "ones", strings.Repeat("\x01", size))
		refused(t, "the highest bytes", strings.Repeat("\xFF", size))
		refused(t, "a frame and noughts", full+strings.Repeat("\x00", size-len(full)))
		refused(t, "a short frame and noughts", firstBytes+strings.Repeat("\x00", size-len(firstBytes)))
	}
}

// fields are a frame's bytes, thing by thing: a Print, then an entry in Items, then a dead one in a Reply.
func fields() []field {
	num := func(n, most int) field { return field{bytes: numBytes(n), n: n, most: most} }
	text := func(s string, most int) []field { return []field{num(len(s), most), {bytes: s, n: -1}} }
	flag := func(b string) field { return field{bytes: b, n: -1, flag: true} }
	words := field{bytes: wordBytes(7) + wordBytes(math.MaxUint64), n: -1}
	return slices.Concat(
		[]field{num(1, 7), num(2, 7), num(1, 7), num(300, mostLives), num(5, mostLives), num(2, lastTurn), num(3, mostParts)},
		[]field{num(1, 3)}, text("a", 16), []field{flag("\x00")}, text("b", 16), []field{num(200, mostEntries), words},
		[]field{num(2, 3)}, text("b", 16), []field{flag("\x00")}, text("c", 16), []field{num(1, mostEntries)},
		text("bb", 16), []field{num(1000, greatest), num(3, 7), flag("\x00")}, text("value", 32),
		[]field{num(3, 3)}, text("c", 16), []field{flag("\x01"), num(1, mostEntries)},
		text("d", 16), []field{num(1, greatest), num(0, 7), flag("\x01")},
	)
}

// field is one thing's bytes; of a number n is that, and most the most that may stand there.
type field struct {
	bytes   string
	n, most int
	flag    bool
}

// with are those bytes, but for the i-th thing's, which are others.
func with(l []field, i int, other string) string {
	all := ""
	for j, x := range l {
		if j == i {
			all += other
		} else {
			all += x.bytes
		}
	}
	return all
}

// P12.2: each number in a form that is not its one, the others in theirs.
func TestNumbersInOtherForms(t *testing.T) {
	l := fields()
	if b := with(l, -1, ""); !asRead(t, b) {
		t.Fatalf("%q is no frame's", b)
	}
	for i, x := range l {
		if x.n < 0 {
			continue
		}
		for _, more := range []int{1, 2, 5, 7, 8, 12} {
			refused(t, "a number in a longer form", with(l, i, padded(x.n, more)))
		}
		for _, size := range []int{8, 9, 10, 100} {
			for _, last := range []string{"", "\x00", "\x01", "\x7F"} {
				refused(t, "an endless number", with(l, i, strings.Repeat("\xFF", size)+last))
				refused(t, "an endless nought", with(l, i, strings.Repeat("\x80", size)+last))
			}
		}
	}
}

// P12.2: each number above its most, and some that would be right but for their highest bits.
func TestNumbersTooGreat(t *testing.T) {
	l := fields()
	for i, x := range l {
		if x.n < 0 {
			continue
		}
		for _, n := range []int{x.most + 1, x.most + 2, 2*x.most + 2, x.n + 1<<8 + 1<<20, x.n + 1<<32, x.n + greatest, x.n + 1<<62, math.MaxInt} {
			if n > x.most {
				refused(t, "a number too great", with(l, i, numBytes(n)))
			}
		}
	}
}

// P12.2: each number another one that is no greater than its most; few of them say a frame.
func TestOtherNumbers(t *testing.T) {
	l := fields()
	right := 0
	for i, x := range l {
		if x.n < 0 {
			continue
		}
		for n := range 400 {
			if asRead(t, with(l, i, numBytes(n))) {
				right++
			}
		}
		asRead(t, with(l, i, numBytes(x.most)))
	}
	if right < 1000 {
		t.Errorf("only %d of them are frames': the test tells little", right)
	}
}

// P12.2: flags that are neither 0 nor 1.
func TestWrongFlags(t *testing.T) {
	l := fields()
	flags := 0
	for i, x := range l {
		if !x.flag {
			continue
		}
		flags++
		for b := 2; b < 256; b++ {
			refused(t, "a flag", with(l, i, string([]byte{byte(b)})))
		}
		asRead(t, with(l, i, "\x00"))
		asRead(t, with(l, i, "\x01"))
		refused(t, "no flag", with(l, i, ""))
	}
	if flags != 5 {
		t.Errorf("%d flags", flags)
	}
}

// P12.2: numbers of parts and entries that promise more, or less, than follows.
func TestWrongCounts(t *testing.T) {
	for _, f := range goodFrames() {
		for _, count := range []int{0, 1, len(f.Parts) - 1, len(f.Parts) + 1, len(f.Parts) + 128, mostParts, mostParts + 1, 1 << 14, greatest, math.MaxInt} {
			if count != len(f.Parts) && count >= 0 {
				refused(t, "another number of parts", header(f, count)+partsBytes(f.Parts))
			}
		}
	}
	for _, n := range []int{0, 1, 2, mostEntries} {
		l := under(numbered(n)...)
		for _, count := range []int{0, 1, 2, 3, mostEntries - 1, mostEntries, mostEntries + 1, 1 << 14, greatest, math.MaxInt} {
			head := header(said(2), 1) + "\x02" + rangeBytes(whole())
			if count != n {
				refused(t, "another number of entries", head+numBytes(count)+entriesBytes(l))
			}
		}
	}
	every := strings.Repeat("\x02\x00\x01\x80\x02", 100)
	refused(t, "as many entries as may be, in each part, of which none follow", header(said(2), mostParts)+every)
}

// P12.2: bytes that are well formed, and say a frame that may not be: each flaw that can be written.
func TestFramesThatMayNotBe(t *testing.T) {
	written := 0
	for _, x := range append(frameFlaws(), partFlaws()...) {
		f := twoParts()
		x.make(&f)
		if isWritten(f) {
			refused(t, x.what, bytesOf(f))
			written++
		}
	}
	if written < 25 {
		t.Errorf("only %d flaws were written", written)
	}
	for _, l := range [][]api.Part{
		nil, {items(whole())}, {print(from("a"), tally(1, 0, 0))}, prints(2), {reply(whole(), at("a"))}, {print(rng("", "a"), tally(1, 0, 0))},
	} {
		refused(t, "turn 0 without its one part", bytesOf(said(0, l...)))
	}
	refused(t, "a part too many", bytesOf(said(2, prints(mostParts+1)...)))
	refused(t, "an entry too many in one part", bytesOf(said(2, items(whole(), under(numbered(mostEntries+1)...)...))))
	refused(t, "an entry too many in all parts", bytesOf(said(2, single(mostEntries+1)...)))
	refused(t, "an entry too many in two parts", bytesOf(said(2, items(rng("", "k"), at("a")), items(from("k"), under(numbered(mostEntries)...)...))))
	refused(t, "a part behind an Open one", bytesOf(said(2, items(from("a")), items(from("b")))))
	refused(t, "parts the other way round", bytesOf(said(2, items(rng("b", "c")), items(rng("a", "b")))))
	refused(t, "entries the other way round", bytesOf(said(2, items(rng("a", "c"), at("b"), at("a")))))
	refused(t, "an entry below its range", bytesOf(said(2, items(rng("b", "c"), at("a")))))
	refused(t, "a sum of nothing", bytesOf(said(0, print(whole(), tally(0, 0, 1)))))
	refused(t, "a Reply without entries", bytesOf(said(2, reply(whole()))))
}

// isWritten tells whether all that is wrong with f stands in its bytes: numbers below 0, an Open range's Hi, a Print's entries and the like do not.
func isWritten(f api.Frame) bool {
	s := f.Session
	if min(f.From, f.To, s.Opener, s.Life, s.Number, f.Turn) < 0 {
		return false
	}
	g, _ := read(bytesOf(f))
	return len(f.Parts) > mostParts || len(f.Parts[len(f.Parts)-1].Entries) > mostEntries || alike(f, g)
}

// P12.2: parts of no kind, with whatever behind their range.
func TestNoKind(t *testing.T) {
	for _, kind := range []int{0, 4, 5, 127, 128, 129, 257, 1 << 32, 1<<32 + 1, math.MaxInt} {
		for _, behind := range []string{"", "\x00", "\x01" + wordBytes(2) + wordBytes(3), "\x01" + entryBytes(at("a"))} {
			for _, r := range []api.Range{whole(), rng("a", "b")} {
				refused(t, "no kind", header(said(2), 1)+numBytes(kind)+rangeBytes(r)+behind)
			}
		}
	}
}

// P12.2: an Open range with a Hi, a dead entry with a value, and others without what they need.
func TestOtherFormsOfParts(t *testing.T) {
	head := header(said(2), 1)
	words := wordBytes(2) + wordBytes(3)
	for what, b := range map[string]string{
		"an Open range with an empty Hi":    "\x01\x01a\x01\x00" + "\x01" + words,
		"an Open range with a Hi":           "\x01\x01a\x01\x01b" + "\x01" + words,
		"a range without a Hi":              "\x01\x01a\x00" + "\x01" + words,
		"a Print with one lane":             "\x01\x01a\x01" + "\x01" + wordBytes(2),
		"a Print with three lanes":          "\x01\x01a\x01" + "\x01" + words + wordBytes(0),
		"a Print without a Count":           "\x01\x01a\x01" + words,
		"a Print with no entries":           "\x01\x01a\x01" + "\x01" + words + "\x00",
		"Items with a tally":                "\x02\x01a\x01" + "\x00" + wordBytes(0) + wordBytes(0) + "\x00",
		"Items without a number of entries": "\x02\x01a\x01",
		"a dead entry with an empty value":  "\x02\x01a\x01" + "\x01" + "\x01a\x01\x00\x01\x00",
		"a dead entry with a value":         "\x02\x01a\x01" + "\x01" + "\x01a\x01\x00\x01\x01v",
		"an entry without a value":          "\x02\x01a\x01" + "\x01" + "\x01a\x01\x00\x00",
		"an entry with the Counter 0":       "\x02\x01a\x01" + "\x01" + "\x01a\x00\x00\x00\x00",
	} {
		refused(t, what, head+b)
	}
}

// P12.2: of some frames each byte is changed to each other one, taken away, and doubled with another.
func TestEachByte(t *testing.T) {
	frames := append(fewFrames()[:3], twoParts(), said(4, single(3)...), said(63, fewParts()[13]...),
		said(5, items(rng("", highest), entry("", greatest, 7, longValue), dead(longKey, 128, 0))),
		api.Frame{From: 7, To: 0, Session: name(7, mostLives, 129), Turn: 2, Parts: prints(3)})
	right, all := 0, 0
	for _, f := range frames {
		b := bytesOf(f)
		for at := range len(b) {
			for other := range 256 {
				one := string([]byte{byte(other)})
				if asRead(t, b[:at]+one+b[at+1:]) {
					right++
				}
				asRead(t, b[:at]+one+b[at:])
				all++
			}
			asRead(t, b[:at]+b[at+1:])
		}
	}
	if right < 1000 || right > all/2 {
		t.Errorf("%d of %d are frames': the test tells little", right, all)
	}
}

// P12.2: all bytes of a few kinds, as many as stand behind a header.
func TestAllShortBytes(t *testing.T) {
	kinds := []byte{0, 1, 2, 3, 'a', 128}
	head := header(said(2), 0)
	behind := []string{""}
	right := 0
	for at := 0; at < len(behind); at++ {
		if asRead(t, head[:len(head)-1]+behind[at]) {
			right++
		}
		asRead(t, behind[at])
		if len(behind[at]) == 7 {
			continue
		}
		for _, b := range kinds {
			behind = append(behind, behind[at]+string([]byte{b}))
		}
	}
	if right < 10 {
		t.Errorf("only %d of them are frames'", right)
	}
}

// P12.2: frames that several changes were made to, at any places.
func TestAnyChanges(t *testing.T) {
	rnd := rand.New(rand.NewPCG(12, 2))
	right := 0
	for range 40000 {
		b := []byte(bytesOf(someFrame(rnd)))
		for range 1 + rnd.IntN(3) {
			at := rnd.IntN(len(b))
			switch rnd.IntN(4) {
			case 0:
				b[at] = byte(rnd.IntN(256))
			case 1:
				b[at] ^= 1 << rnd.IntN(8)
			case 2:
				b = slices.Insert(b, at, byte(rnd.IntN(256)))
			case 3:
				b = slices.Delete(b, at, at+1)
			}
			if len(b) == 0 {
				b = []byte{0}
			}
		}
		if asRead(t, string(b)) {
			right++
		}
	}
	if right < 1000 {
		t.Errorf("only %d of them are frames': the test tells little", right)
	}
}

// P12.2: any bytes.
func TestAnyBytes(t *testing.T) {
	rnd := rand.New(rand.NewPCG(12, 1))
	for range 40000 {
		asRead(t, someText(rnd, 60))
	}
}
