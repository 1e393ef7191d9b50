package ghost_test

import (
	"fmt"
	"math"
	"math/rand/v2"
	"slices"
	"strconv"
	"strings"
	"testing"

	"tideline/api"
	"tideline/ghost"
)

// The document's limits, by its own words.
const (
	most     = 256     // entries of a map that two sides compare
	allNodes = 8       // numbered from 0 on
	greatest = 1 << 40 // the greatest Counter that may be
	lowInt   = math.MinInt
	highInt  = math.MaxInt
)

var (
	none         api.Entry
	lowest       = strings.Repeat("\x00", 16)
	highest      = strings.Repeat("\xFF", 16) // no key is above it
	longKey      = strings.Repeat("k", 16)
	tooLongKey   = strings.Repeat("k", 17)
	longValue    = strings.Repeat("v", 32)
	tooLongValue = strings.Repeat("v", 33)
)

func whole() api.Range { return api.Range{Open: true} }

func rng(lo, hi string) api.Range { return api.Range{Lo: lo, Hi: hi} }

func from(lo string) api.Range { return api.Range{Lo: lo, Open: true} }

func version(counter, node int) api.Version { return api.Version{Counter: counter, Node: node} }

func entry(key string, counter, node int, value string) api.Entry {
	return api.Entry{Key: key, Version: version(counter, node), Value: value}
}

func dead(key string, counter, node int) api.Entry {
	return api.Entry{Key: key, Version: version(counter, node), Dead: true}
}

// at is an entry as the chapter's examples have them: of node 0, with a value of its own name.
func at(key string, counter int) api.Entry {
	return entry(key, counter, 0, strconv.Itoa(counter))
}

func list(l ...api.Entry) []api.Entry { return l }

func config(branch, leaf int) api.Config { return api.Config{Branch: branch, Leaf: leaf} }

// oddKeys are keys, rising: the empty one, some that begin others, those at the edges, and such as lie side by side.
func oddKeys() []string {
	return []string{"", "\x00", "\x00\x00", lowest, "A", "a", "a\x00", "aa", "ab", "a\xFF", "b", "ba", longKey, "ä", "\xFF", "\xFF\x00", "\xFF\xFF", highest}
}

// numbered are n keys, rising, from the first-th one on.
func numbered(first, n int) []string {
	var l []string
	for i := first; i < first+n; i++ {
		l = append(l, "k"+string([]byte{byte(i >> 8), byte(i)}))
	}
	return l
}

// under are entries of these keys, by turns of each node, every third one dead; the Counters are mixed, from more on.
func under(keys []string, more int) []api.Entry {
	var l []api.Entry
	for i, key := range keys {
		counter := i*7%len(keys) + 1 + more
		if i%3 == 2 {
			l = append(l, dead(key, counter, i%allNodes))
		} else {
			l = append(l, entry(key, counter, i%allNodes, "v"+strconv.Itoa(i)))
		}
	}
	return l
}

// many are n entries.
func many(n int) []api.Entry { return under(numbered(0, n), 0) }

// rising are these entries by their keys.
func rising(l ...api.Entry) []api.Entry {
	l = slices.Clone(l)
	slices.SortFunc(l, func(a, b api.Entry) int { return strings.Compare(a.Key, b.Key) })
	return l
}

// merged are the entries of some lists that have no key in common, by their keys.
func merged(l ...[]api.Entry) []api.Entry { return rising(slices.Concat(l...)...) }

// family is a row of pairs of keys, of 16 bytes each, a lower one and an upper one, such that entries under both, of one version, come to the same: their lanes are alike behind the first word of both, but for the bits of mask, by which the second words differ. (Such words were searched for.)
type family struct{ lower, upper, mask string }

// families are such whose keys lie near each other; they rise, and their first bytes are "\x0e" to "\xc2".
func families() []family {
	return []family{
		{"\x0e\xb2\x07\x81\x0f\x64\x6e\x70", "\x0e\xde\x3d\x59\xb3\xd8\xff\xcf", "\x6a\xef\xcf\x40\x6a\x03\x42\xe2"},
		{"\x16\x03\xbc\xe6\xe2\xd0\x86\x9b", "\x16\x0d\xfc\x96\x81\x40\xaf\x72", "\x4b\xd4\x78\x12\x4b\x0a\x1a\x4d"},
		{"\x31\x69\xfb\x38\x08\xc9\xd8\xc7", "\x31\x6d\xed\x9f\x4c\xb5\x60\x3a", "\x02\x54\xd6\x43\x02\x10\xf7\x40"},
		{"\x37\x42\x85\x0a\x37\x7a\xac\x28", "\x37\x45\xef\x23\x23\x73\xd1\xdd", "\x00\x85\xfc\xa8\x00\x52\x35\x15"},
		{"\x47\x14\x80\xe1\xde\x3a\x35\x0d", "\x47\x40\x7f\x60\x0c\x65\x1b\x30", "\x6a\x47\x94\xdb\x6a\xfb\xb4\xf0"},
		{"\x95\x71\x3a\xaf\x58\xff\x3b\x92", "\x95\x80\x2f\x44\x9c\x11\x3e\x94", "\xdc\xf3\x64\xe9\xdc\x52\x46\xed"},
		{"\xa7\xa9\x1d\x87\x10\x4b\x85\xb5", "\xa7\xc1\xe5\x6c\x51\x27\x08\x18", "\xdd\x2e\x37\x6e\xdd\x16\x62\xd9"},
		{"\xc2\x63\xc6\x6a\x03\x79\x44\x2e", "\xc2\xbf\xe3\xe6\x1a\xca\xd5\x25", "\xb6\x71\xcb\xd8\xb6\xd5\x56\x00"},
	}
}

// keys are the family's n-th pair; n is 0 to 255.
func (f family) keys(n int) (lower, upper string) {
	ends := [2][]byte{}
	for i := range 8 {
		ends[0] = append(ends[0], byte(n+i))
		ends[1] = append(ends[1], byte(n+i)^f.mask[i])
	}
	return f.lower + string(ends[0]), f.upper + string(ends[1])
}

// twins are a family's entries of one version that come to the same.
func twins(of, counter int) (lower, upper api.Entry) {
	k, l := families()[of].keys(0)
	return at(k, counter), at(l, counter)
}

// place is where key stands in the list, or would stand.
func place(l []api.Entry, key string) (int, bool) {
	for i, e := range l {
		if e.Key >= key {
			return i, e.Key == key
		}
	}
	return len(l), false
}

// spoil writes over all of a list, and over its spare room.
func spoil(l []api.Entry) {
	l = l[:cap(l)]
	for i := range l {
		l[i] = entry("spoilt", highInt, -1, tooLongValue)
	}
}

// roomy is a copy of l with spare room, in which stand entries that would come next.
func roomy(l []api.Entry) []api.Entry {
	spare := append(slices.Clone(l), entry(highest, greatest, 7, "spare"), entry("", greatest, 7, "spare"))
	return spare[:len(l)]
}

// someEntry is under that key, with one of few versions; of one key and one version it is always the same.
func someEntry(rnd *rand.Rand, key string) api.Entry {
	counter, node := 1+rnd.IntN(3), rnd.IntN(2)
	if (len(key)+counter+node)%4 == 0 {
		return dead(key, counter, node)
	}
	return entry(key, counter, node, fmt.Sprintf("%x", key)[:min(2*len(key), 6)]+strconv.Itoa(counter))
}

// someMap is a map of some of these keys.
func someMap(rnd *rand.Rand, keys []string) []api.Entry {
	var l []api.Entry
	often := 1 + rnd.IntN(6)
	for _, key := range keys {
		if rnd.IntN(often) > 0 || rnd.IntN(20) == 0 {
			l = append(l, someEntry(rnd, key))
		}
	}
	return l
}

// short tells a list in few words.
func short(l []api.Entry) string {
	text := quoted(l)
	return fmt.Sprintf("%d entries %s", len(l), text[:min(len(text), 300)])
}

// quoted is what a failed test tells of what has keys and values, which may be any bytes.
func quoted(x any) string { return fmt.Sprintf("%q", fmt.Sprintf("%+v", x)) }

// outside are numbers around those from lo to hi, none of them among these.
func outside(lo, hi int) []int {
	l := []int{lo - 1, lo - 2, lo - 1000, math.MinInt32, lowInt, lowInt + 1, hi + 1, hi + 2, hi + 1000, math.MaxInt32, highInt - 1, highInt}
	return slices.DeleteFunc(l, func(n int) bool { return n >= lo && n <= hi })
}

// told asks for what Twins tells of maps that may be.
func told(t *testing.T, a, b []api.Entry, branch, leaf int) (api.Range, bool) {
	t.Helper()
	r, is, e := ghost.Twins(a, b, branch, leaf)
	if e != api.OK || !is && r != (api.Range{}) {
		t.Fatalf("Twins(%s, %s, %d, %d): %s, %t, %d", short(a), short(b), branch, leaf, quoted(r), is, e)
	}
	return r, is
}

// isTold asks that Twins tells just this range; of the zero one, that it tells none.
func isTold(t *testing.T, a, b []api.Entry, branch, leaf int, want api.Range) {
	t.Helper()
	r, is := told(t, a, b, branch, leaf)
	if r != want || is != (want != api.Range{}) {
		t.Fatalf("Twins(%s, %s, %d, %d): %s, %t, want %s", short(a), short(b), branch, leaf, quoted(r), is, quoted(want))
	}
}

// isJudged asks for that verdict.
func isJudged(t *testing.T, a, b, x, y []api.Entry, c api.Config, refused int, want api.Verdict) {
	t.Helper()
	if v, e := ghost.Judge(a, b, x, y, c, refused); v != want || e != api.OK {
		t.Fatalf("Judge(%s, %s, %s, %s, %v, %d): %s, %d, want %s", short(a), short(b), short(x), short(y), c, refused, quoted(v), e, quoted(want))
	}
}

// wrote tells the ghost of all these writes.
func wrote(t *testing.T, g *ghost.Ghost, l ...api.Entry) {
	t.Helper()
	for _, x := range l {
		if e := g.Wrote(x); e != api.OK {
			t.Fatalf("Wrote(%s): %d", quoted(x), e)
		}
	}
}

// sees asks for what Sees tells, and that the node holds what it should then.
func sees(t *testing.T, g *ghost.Ghost, node int, l []api.Entry, key string, wrong api.Errno) {
	t.Helper()
	want := l
	if wrong != api.OK {
		want = g.Held(node)
	}
	if k, e := g.Sees(node, l); k != key || e != wrong {
		t.Fatalf("Sees(%d, %s): %q, %d, want %q, %d", node, short(l), k, e, key, wrong)
	}
	holds(t, g, node, want)
}

func holds(t *testing.T, g *ghost.Ghost, node int, want []api.Entry) {
	t.Helper()
	if l := g.Held(node); !slices.Equal(l, want) {
		t.Fatalf("Held(%d): %s, want %s", node, short(l), short(want))
	}
}
