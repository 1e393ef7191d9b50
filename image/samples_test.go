package image_test

import (
	"slices"
	"strconv"
	"strings"
	"testing"

	"tideline/api"
	"tideline/image"
	"tideline/store"
)

const (
	most     = 256     // keys that a store holds
	greatest = 1 << 40 // the greatest Counter that may be
)

var (
	lowest       = strings.Repeat("\x00", 16)
	highest      = strings.Repeat("\xFF", 16) // no key is above it
	longKey      = strings.Repeat("k", 16)
	tooLongKey   = strings.Repeat("k", 17)
	longValue    = strings.Repeat("v", 32)
	tooLongValue = strings.Repeat("v", 33)
)

func whole() api.Range { return api.Range{Open: true} }

func rng(lo, hi string) api.Range { return api.Range{Lo: lo, Hi: hi} }

func version(counter, node int) api.Version { return api.Version{Counter: counter, Node: node} }

func entry(key string, counter, node int, value string) api.Entry {
	return api.Entry{Key: key, Version: version(counter, node), Value: value}
}

func dead(key string, counter, node int) api.Entry {
	return api.Entry{Key: key, Version: version(counter, node), Dead: true}
}

// oddKeys are keys, rising: the empty one, some that begin others, those at the edges, and such as lie side by side.
func oddKeys() []string {
	return []string{"", "\x00", "\x00\x00", lowest, "A", "a", "a\x00", "aa", "ab", "a\xFF", "b", "ba", longKey, "ä", "\xFF", "\xFF\x00", "\xFF\xFF", highest}
}

// numbered are n keys, rising.
func numbered(n int) []string {
	var l []string
	for i := range n {
		l = append(l, "k"+string([]byte{byte(i >> 8), byte(i)}))
	}
	return l
}

// entriesOf are entries of these keys, by turns of each node, every third one dead; the Counters are mixed, from 1 on to how many they are.
func entriesOf(keys []string) []api.Entry {
	var l []api.Entry
	for i, key := range keys {
		counter := i*7%len(keys) + 1
		if i%3 == 2 {
			l = append(l, dead(key, counter, i%8))
		} else {
			l = append(l, entry(key, counter, i%8, "v"+strconv.Itoa(i)))
		}
	}
	return l
}

// withEach are entries of these keys that are, but for the key, like e.
func withEach(keys []string, e api.Entry) []api.Entry {
	var l []api.Entry
	for _, key := range keys {
		e.Key = key
		l = append(l, e)
	}
	return l
}

// widest are as many entries as a store holds, each of as many bytes as an entry may have.
func widest() []api.Entry {
	var l []api.Entry
	for _, key := range numbered(most) {
		l = append(l, entry(key+strings.Repeat("\xFF", 16-len(key)), greatest, 7, longValue))
	}
	return l
}

// stretch are the numbers around those at which a number's bytes grow by one, up to the greatest Counter.
func stretch() []int {
	l := []int{0, 1, 2}
	for n := 128; n < greatest; n *= 128 {
		l = append(l, n-1, n, n+1)
	}
	return append(l, greatest-1, greatest)
}

// sample is what a store is made of.
type sample struct {
	node, clock int
	l           []api.Entry
}

func (x sample) store(t *testing.T) *store.Store {
	t.Helper()
	s, e := store.Load(x.node, x.clock, x.l)
	if s == nil || e != api.OK {
		t.Fatalf("store.Load(%d, %d, %d entries): %v, %d", x.node, x.clock, len(x.l), s, e)
	}
	return s
}

// fewSamples are stores with no entries, with one, and with some.
func fewSamples() []sample {
	var l []sample
	for node := range 8 {
		l = append(l, sample{node, 0, nil}, sample{node, 300, []api.Entry{entry("a", 300, 7-node, "v")}})
	}
	for _, n := range stretch() {
		l = append(l, sample{3, n, nil}, sample{0, greatest, withEach([]string{"a"}, dead("", max(n, 1), 1))})
	}
	for size := range 17 {
		l = append(l, sample{1, 9, withEach([]string{strings.Repeat("k", size)}, entry("", 9, 2, ""))})
	}
	for size := range 33 {
		l = append(l, sample{1, 9, []api.Entry{entry("a", 1, 2, strings.Repeat("\xFF", size))}})
	}
	return append(l,
		sample{5, 1, []api.Entry{entry("", 1, 0, "")}},
		sample{5, 1, []api.Entry{dead("", 1, 0)}},
		sample{7, greatest, []api.Entry{entry(highest, greatest, 7, longValue)}},
		sample{0, 70, []api.Entry{entry("a", 3, 1, "\x00\x01\x80\xFF"), dead("b", 9, 6)}},
		sample{2, greatest, []api.Entry{dead("a", 1, 0), dead("b", 2, 1), dead("c", greatest, 2)}},
		sample{4, 1000, entriesOf(oddKeys())},
		sample{6, 18, entriesOf(oddKeys())},
		sample{6, 18, withEach(oddKeys(), entry("", 18, 0, longValue))},
		sample{6, 18, withEach(oddKeys(), dead("", 18, 0))},
	)
}

// samples are those, and stores with many entries, up to as many as may be.
func samples() []sample {
	l := fewSamples()
	for _, n := range []int{2, 126, 127, 128, 129, most - 1, most} {
		l = append(l, sample{n % 8, n, entriesOf(numbered(n))}, sample{7, greatest, withEach(numbered(n), dead("", n, 5))})
	}
	return append(l, sample{7, greatest, widest()})
}

func put(t *testing.T, s *store.Store) []byte {
	t.Helper()
	b, e := image.Put(s)
	if e != api.OK {
		t.Fatalf("Put: %q, %d", b, e)
	}
	return b
}

func load(t *testing.T, b string) *store.Store {
	t.Helper()
	s, e := image.Load([]byte(b))
	if s == nil || e != api.OK {
		t.Fatalf("Load(%s): %v, %d", short(b), s, e)
	}
	return s
}

// refused asks for ErrImage, and no store beside it.
func refused(t *testing.T, what, b string) {
	t.Helper()
	if s, e := image.Load([]byte(b)); s != nil || e != api.ErrImage {
		t.Errorf("%s: Load(%s): a store %t, %d, want ErrImage", what, short(b), s != nil, e)
	}
}

// short is what a failed test tells of many bytes.
func short(b string) string {
	if len(b) > 60 {
		return strconv.Quote(b[:60]) + " and " + strconv.Itoa(len(b)-60) + " more"
	}
	return strconv.Quote(b)
}

func heldBy(t *testing.T, s *store.Store) []api.Entry {
	t.Helper()
	held, e := s.All(whole())
	if e != api.OK {
		t.Fatalf("All: %d", e)
	}
	return slices.Collect(held)
}

// is asks that a store is of this node, of this clock, and of these entries.
func (x sample) is(t *testing.T, s *store.Store) {
	t.Helper()
	if s.Node() != x.node || s.Clock() != x.clock || s.Len() != len(x.l) {
		t.Fatalf("node %d, clock %d, Len %d; want %d, %d, %d", s.Node(), s.Clock(), s.Len(), x.node, x.clock, len(x.l))
	}
	if got := heldBy(t, s); !slices.Equal(got, x.l) {
		t.Fatalf("it holds %v, want %v", got, x.l)
	}
	for _, want := range x.l {
		if got, held, e := s.Get(want.Key); got != want || !held || e != api.OK {
			t.Fatalf("Get(%q): %v, %t, %d, want %v", want.Key, got, held, e, want)
		}
	}
}

// roomy is a list with room behind its length, which is not empty.
func roomy(b string) []byte {
	l := make([]byte, 0, len(b)+40)
	l = append(l, b+strings.Repeat("\x01", 40)...)
	return l[:len(b)]
}

// spoil writes over all of a list, and over its spare room.
func spoil(b []byte) {
	b = b[:cap(b)]
	for i := range b {
		b[i] ^= 0x55
	}
}
