package image_test

import (
	"math"
	"math/rand/v2"
	"slices"
	"strings"
	"testing"

	"tideline/api"
	"tideline/image"
)

// padded is a number with more bytes than it needs.
func padded(n, more int) string {
	b := []byte(numBytes(n))
	for range more {
		b[len(b)-1] |= 128
		b = append(b, 0)
	}
	return string(b)
}

// asRead holds what Load answers against the second reading.
func asRead(t *testing.T, b string) bool {
	t.Helper()
	want, is := read(b)
	s, e := image.Load([]byte(b))
	if is && e == api.OK && s != nil {
		want.is(t, s)
		return true
	}
	if is || e != api.ErrImage || s != nil {
		t.Fatalf("Load(%s): a store %t, %d; it is an image: %t", short(b), s != nil, e, is)
	}
	return false
}

// P10.2: no bytes, and bytes that are cut short, at each place.
func TestCutShort(t *testing.T) {
	refused(t, "no bytes", "")
	for _, x := range samples() {
		b := x.image()
		for n := range b {
			if n > 300 && n < len(b)-300 && n%17 != 0 {
				continue
			}
			refused(t, "cut short", b[:n])
		}
	}
}

// P10.2: bytes behind the last entry: any byte, an entry that might follow, another image.
func TestMoreBehind(t *testing.T) {
	for _, x := range samples() {
		b := x.image()
		for more := range 256 {
			refused(t, "a byte behind", b+string([]byte{byte(more)}))
		}
		refused(t, "an entry behind", b+entryBytes(entry(highest, 1, 0, "")))
		refused(t, "itself behind", b+b)
		refused(t, "another one behind", b+first)
		refused(t, "much behind", b+strings.Repeat("\x00", 1000))
	}
}

// P10.2: bytes ahead of the first.
func TestMoreAhead(t *testing.T) {
	for ahead := range 256 {
		refused(t, "a byte ahead", string([]byte{byte(ahead)})+second)
	}
	refused(t, "another one ahead", first+second)
}

// P10.2: another word, or none, or one of another length.
func TestAnotherWord(t *testing.T) {
	rest := second[5:]
	for _, word := range []string{"", "t", "tid", "tidf", "Tide", "TIDE", "ride", "tode", "edit", "tide\x00", "\x00tid", "tidetide", "tideline", longKey, longValue} {
		refused(t, "the word "+word, textBytes(word)+rest)
	}
	refused(t, "no word", rest)
	refused(t, "the word without its length", "tide"+rest)
	refused(t, "a length of 3", "\x03tide"+rest)
	refused(t, "a length of 5", "\x05tide"+rest)
	refused(t, "a length of 84", "\x84tide"+rest)
	refused(t, "the greatest length", strings.Repeat("\xFF", 8)+"\x7Ftide"+rest)
}

// P10.2: nodes and clocks that may not be, with entries and without.
func TestWrongNumbers(t *testing.T) {
	for _, l := range [][]api.Entry{nil, {entry("a", 1, 0, "")}} {
		for _, node := range []int{8, 9, 16, 127, 128, 130, 256, 1 << 32, 1<<32 + 3, 1 << 62, math.MaxInt} {
			refused(t, "a node", sample{node, 1, l}.image())
		}
		for _, clock := range []int{greatest + 1, greatest + 2, 2 * greatest, 1 << 48, 1 << 62, math.MaxInt} {
			refused(t, "a clock", sample{3, clock, l}.image())
			refused(t, "a node and a clock", sample{8, clock, l}.image())
		}
	}
}

// P10.2: a clock below a Counter, of any of the entries.
func TestClockBelow(t *testing.T) {
	for _, n := range stretch()[2:] {
		refused(t, "below the only one", sample{0, n - 1, []api.Entry{entry("a", n, 0, "")}}.image())
		refused(t, "below the first one", sample{0, n - 1, []api.Entry{dead("a", n, 7), entry("b", 1, 0, "")}}.image())
		refused(t, "below the last one", sample{0, n - 1, []api.Entry{entry("a", 1, 0, ""), dead("b", n, 7)}}.image())
		refused(t, "no clock", sample{0, 0, []api.Entry{entry("a", n, 0, "")}}.image())
	}
	refused(t, "below one of many", sample{0, most - 1, entriesOf(numbered(most))}.image())
}

// P10.2: a number of entries that is too small, too great, and above MaxItems.
func TestWrongCount(t *testing.T) {
	for _, x := range samples() {
		for _, count := range []int{0, 1, len(x.l) - 1, len(x.l) + 1, len(x.l) + 128, most, most + 1, 1 << 14, 1 << 40, math.MaxInt} {
			if count != len(x.l) && count >= 0 {
				refused(t, "another number of entries", header(x.node, x.clock, count)+entriesBytes(x.l))
			}
		}
	}
	for _, n := range []int{most + 1, most + 2, 2 * most} {
		for _, l := range [][]api.Entry{entriesOf(numbered(n)), withEach(numbered(n), dead("", 1, 0))} {
			for _, count := range []int{most - 1, most, most + 1, n} {
				refused(t, "more entries than may be", header(0, n, count)+entriesBytes(l))
			}
		}
	}
}

// P10.2: each number in a form that is not its one, the others in theirs.
func TestNumbersInOtherForms(t *testing.T) {
	forms := func(n int) []string {
		return []string{padded(n, 1), padded(n, 2), padded(n, 5), padded(n, 12)}
	}
	for _, clock := range []int{3, 300} {
		num := []int{4, 3, clock, 1, 2, clock, 5, 1}
		for i := range num {
			for _, form := range forms(num[i]) {
				var n [8]string
				for j := range num {
					n[j] = numBytes(num[j])
				}
				n[i] = form
				b := n[0] + "tide" + n[1] + n[2] + n[3] + n[4] + "ab" + n[5] + n[6] + "\x00" + n[7] + "v"
				refused(t, "a number in another form", b)
			}
		}
	}
	for _, size := range []int{8, 9, 10, 100} {
		endless := strings.Repeat("\xFF", size)
		for _, last := range []string{"", "\x00", "\x01", "\x7F"} {
			refused(t, "an endless length of the word", endless+last)
			refused(t, "an endless node", "\x04tide"+endless+last+"\x00\x00")
			refused(t, "an endless clock", "\x04tide\x03"+endless+last+"\x00")
			refused(t, "an endless number of entries", "\x04tide\x03\x02"+endless+last)
			refused(t, "an endless length of a key", "\x04tide\x03\x02\x01"+endless+last+"a\x01\x00\x01")
		}
	}
}

// P10.2: flags that are neither 0 nor 1.
func TestOtherFlags(t *testing.T) {
	for flag := 2; flag < 256; flag++ {
		for _, behind := range []string{"", "\x00", "\x01v"} {
			refused(t, "another flag", "\x04tide\x03\x02\x01\x01a\x01\x03"+string([]byte{byte(flag)})+behind)
		}
	}
}

// P10.2: entries out of order, and one key twice.
func TestOutOfOrder(t *testing.T) {
	for _, x := range samples() {
		for i := 1; i < len(x.l); i += 1 + len(x.l)/20 {
			swapped := slices.Clone(x.l)
			swapped[i-1], swapped[i] = swapped[i], swapped[i-1]
			refused(t, "neighbours the other way round", sample{x.node, x.clock, swapped}.image())
			twice := slices.Clone(x.l)
			twice[i].Key = twice[i-1].Key
			refused(t, "one key twice", sample{x.node, x.clock, twice}.image())
		}
	}
	a := entry("a", 1, 0, "x")
	refused(t, "one entry twice", sample{0, 2, []api.Entry{a, a}}.image())
	refused(t, "a key twice, the second one newer", sample{0, 2, []api.Entry{a, entry("a", 2, 0, "y")}}.image())
	refused(t, "the empty key twice", sample{0, 2, []api.Entry{dead("", 1, 0), dead("", 2, 0)}}.image())
	refused(t, "a key behind one that begins with it", sample{0, 2, []api.Entry{entry("aa", 1, 0, ""), a}}.image())
	refused(t, "80 ahead of 7F", sample{0, 2, []api.Entry{entry("\x80", 1, 0, ""), entry("\x7F", 1, 0, "")}}.image())
	refused(t, "the last below the first", sample{0, 2, []api.Entry{entry("b", 1, 0, ""), entry("c", 1, 0, ""), a}}.image())
}

func wrongEntries() []api.Entry {
	return []api.Entry{
		{Key: "b"},
		entry("b", 0, 3, "v"),
		dead("b", 0, 0),
		entry("b", greatest+1, 0, ""),
		entry("b", math.MaxInt, 0, ""),
		entry("b", 1, 8, ""),
		entry("b", 1, 128, ""),
		dead("b", 1, math.MaxInt),
		entry("b"+strings.Repeat("k", 16), 1, 0, ""),
		entry("b"+strings.Repeat("k", 200), 1, 0, ""),
		entry("b", 1, 0, tooLongValue),
		entry("b", 1, 0, strings.Repeat("v", 300)),
	}
}

// P10.2: entries that may not be, alone, and among such as may.
func TestWrongEntries(t *testing.T) {
	a, c := entry("a", 1, 0, "x"), dead("c", 2, 7)
	for _, e := range wrongEntries() {
		for _, clock := range []int{2, greatest} {
			for _, l := range [][]api.Entry{{e}, {a, e}, {e, c}, {a, e, c}} {
				refused(t, "an entry that may not be", sample{0, clock, l}.image())
			}
		}
	}
	refused(t, "a dead one with a value", "\x04tide\x03\x02\x01\x01b\x01\x03\x01\x01v")
	refused(t, "a dead one with an empty value", "\x04tide\x03\x02\x01\x01b\x01\x03\x01\x00")
	refused(t, "a dead one with a value, ahead of another one", "\x04tide\x03\x02\x02\x01b\x01\x03\x01\x01v"+entryBytes(c))
	refused(t, "one that is not dead, without a value", "\x04tide\x03\x02\x01\x01b\x01\x03\x00")
}

// P10.2: two things that are wrong at once, whichever comes first.
func TestTwoWrongs(t *testing.T) {
	words := []string{"\x04tide", "\x04tidf", "\x05tide", "\x84\x00tide", ""}
	nodes := []string{"\x03", "\x08", "\x83\x00"}
	clocks := []string{"\x09", "\x00", numBytes(greatest + 1), "\x89\x00"}
	counts := []string{"\x02", "\x01", "\x03", numBytes(most + 1), numBytes(math.MaxInt), "\x82\x00"}
	a, b := entryBytes(entry("a", 1, 0, "x")), entryBytes(dead("b", 9, 7))
	entries := []string{a + b, b + a, a + a, a + b[:3], a + entryBytes(entry("b", 0, 8, "")), entryBytes(entry(tooLongKey, 1, 0, tooLongValue)) + b, ""}
	ends := []string{"", "\x00", first}
	right := 0
	for _, word := range words {
		for _, node := range nodes {
			for _, clock := range clocks {
				for _, count := range counts {
					for _, l := range entries {
						for _, end := range ends {
							if asRead(t, word+node+clock+count+l+end) {
								right++
							}
						}
					}
				}
			}
		}
	}
	if right != 1 {
		t.Errorf("%d of them are images, want the first one alone", right)
	}
}

// P10.2: bytes that are longer than any image, and that begin as one does.
func TestTooLong(t *testing.T) {
	full := sample{7, greatest, widest()}.image()
	for _, size := range []int{api.MaxImage - 1, api.MaxImage, api.MaxImage + 1, 1 << 20} {
		refused(t, "noughts", strings.Repeat("\x00", size))
		refused(t, "ones", strings.Repeat("\xFF", size))
		refused(t, "an image and noughts", full+strings.Repeat("\x00", size-len(full)))
	}
}

// P10.2: of some images each byte is changed to each other one, taken away, and doubled.
func TestEachByte(t *testing.T) {
	images := []string{first, second}
	for _, x := range []sample{
		{0, 300, []api.Entry{entry("", 128, 7, ""), dead("\x00", 300, 0), entry("\x00\x00", 1, 1, "\x00")}},
		{7, greatest, []api.Entry{entry(lowest, greatest, 7, longValue), entry(highest, 1, 0, "")}},
		{4, 1000, entriesOf(oddKeys())},
	} {
		images = append(images, x.image())
	}
	right := 0
	for _, b := range images {
		for at := range len(b) {
			for with := range 256 {
				if asRead(t, b[:at]+string([]byte{byte(with)})+b[at+1:]) {
					right++
				}
				asRead(t, b[:at]+string([]byte{byte(with)})+b[at:])
			}
			asRead(t, b[:at]+b[at+1:])
		}
	}
	if right < 1000 {
		t.Errorf("only %d of them are images: the test tells little", right)
	}
}

// P10.2: all bytes of a few kinds, as many as stand behind the word.
func TestAllShortBytes(t *testing.T) {
	kinds := []byte{0, 1, 2, 7, 8, 'a', 128}
	behind := []string{""}
	right := 0
	for at := 0; at < len(behind); at++ {
		if asRead(t, "\x04tide"+behind[at]) {
			right++
		}
		if len(behind[at]) == 6 {
			continue
		}
		for _, b := range kinds {
			behind = append(behind, behind[at]+string([]byte{b}))
		}
	}
	if right < 10 {
		t.Errorf("only %d of them are images", right)
	}
}

// P10.2: images that several changes were made to, at any places.
func TestAnyChanges(t *testing.T) {
	rnd := rand.New(rand.NewPCG(10, 2))
	all := samples()
	right := 0
	for range 12000 {
		b := []byte(all[rnd.IntN(len(all))].image())
		for range 1 + rnd.IntN(4) {
			at := rnd.IntN(len(b))
			switch rnd.IntN(4) {
			case 0:
				b[at] = byte(rnd.IntN(256))
			case 1:
				b[at] ^= 1 << rnd.IntN(8)
			case 2:
				b = slices.Insert(b, at, byte(rnd.IntN(256)))
			case 3:
				other := all[rnd.IntN(len(all))].image()
				b = append(b[:at], other[min(at, len(other)):]...)
			}
			if len(b) == 0 {
				b = []byte{0}
			}
		}
		if asRead(t, string(b)) {
			right++
		}
	}
	if right < 100 {
		t.Errorf("only %d of them are images: the test tells little", right)
	}
}

// P10.2, R5: what was refused leaves nothing behind: the next bytes are read as ever.
func TestBehindARefusal(t *testing.T) {
	for _, b := range []string{"", "\x04tidf", first + "\x00", second[:len(second)-1], sample{8, 0, nil}.image(), sample{0, 0, entriesOf(oddKeys())}.image()} {
		refused(t, "once", b)
		refused(t, "twice", b)
		sample{3, 0, nil}.is(t, load(t, first))
	}
}
