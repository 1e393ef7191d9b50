package merge_test

import (
	"iter"
	"math/rand/v2"
	"slices"
	"strconv"
	"strings"

	"tideline/api"
)

const (
	most     = 256     // keys that a store holds; a list may have more
	greatest = 1 << 40 // the greatest Counter that may be
)

var (
	lowest       = strings.Repeat("\x00", 16)
	highest      = strings.Repeat("\xFF", 16) // no key is above it
	longKey      = strings.Repeat("k", 16)
	tooLongKey   = strings.Repeat("k", 17)
	longValue    = strings.Repeat("v", 32)
	tooLongValue = strings.Repeat("v", 33)
)

func whole() api.Range { return api.Range{Open: true} }

func rng(lo, hi string) api.Range { return api.Range{Lo: lo, Hi: hi} }

func from(lo string) api.Range { return api.Range{Lo: lo, Open: true} }

func openTo(lo, hi string) api.Range { return api.Range{Lo: lo, Hi: hi, Open: true} }

func version(counter, node int) api.Version { return api.Version{Counter: counter, Node: node} }

func entry(key string, counter, node int, value string) api.Entry {
	return api.Entry{Key: key, Version: version(counter, node), Value: value}
}

func dead(key string, counter, node int) api.Entry {
	return api.Entry{Key: key, Version: version(counter, node), Dead: true}
}

// at is an entry as the chapter's examples have them: of node 0, with a value of its own name.
func at(key string, counter int) api.Entry {
	return entry(key, counter, 0, key+strconv.Itoa(counter))
}

func list(l ...api.Entry) []api.Entry { return l }

// oddKeys are keys, rising: the empty one, some that begin others, those at the edges, and such as lie side by side.
func oddKeys() []string {
	return []string{"", "\x00", "\x00\x00", lowest, "A", "a", "a\x00", "aa", "ab", "a\xFF", "b", "ba", longKey, "ä", "\xFF", "\xFF\x00", "\xFF\xFF", highest}
}

// numbered are n keys, rising.
func numbered(n int) []string {
	var l []string
	for i := range n {
		l = append(l, "k"+string([]byte{byte(i >> 8), byte(i)}))
	}
	return l
}

// eachOf are the keys of l from the first on, every step-th one.
func eachOf(l []string, first, step int) []string {
	var keys []string
	for i := first; i < len(l); i += step {
		keys = append(keys, l[i])
	}
	return keys
}

// entriesOf are entries of these keys, by turns of each node, every third one dead; the Counters are mixed, from more on.
func entriesOf(keys []string, more int) []api.Entry {
	var l []api.Entry
	for i, key := range keys {
		counter := i*7%len(keys) + 1 + more
		if i%3 == 2 {
			l = append(l, dead(key, counter, i%8))
		} else {
			l = append(l, entry(key, counter, i%8, "v"+strconv.Itoa(i)))
		}
	}
	return l
}

// withEach are entries of these keys that are, but for the key, like e.
func withEach(keys []string, e api.Entry) []api.Entry {
	var l []api.Entry
	for _, key := range keys {
		e.Key = key
		l = append(l, e)
	}
	return l
}

// sampleMaps are maps of all sorts, with no keys in common, with some, and with all; of one key and one version some have unlike values, and some are dead.
func sampleMaps() [][]api.Entry {
	many := numbered(1000)
	return [][]api.Entry{
		nil,
		{},
		{entry("", 1, 0, "")},
		{dead("", 1, 0)},
		{entry("", 1, 1, "")},
		{entry("a", 1, 0, "x")},
		{entry("a", 1, 0, "y")},
		{dead("a", 1, 0)},
		{entry("a", 1, 7, longValue)},
		{dead("a", 2, 0)},
		{entry("a\x00", 2, 0, "")},
		{entry("aa", 1, 0, "x")},
		{entry(highest, greatest, 7, longValue)},
		{entry(lowest, greatest, 0, "\x00")},
		entriesOf(oddKeys(), 0),
		entriesOf(oddKeys(), 3),
		entriesOf(eachOf(oddKeys(), 0, 2), 0),
		entriesOf(eachOf(oddKeys(), 1, 2), 0),
		withEach(oddKeys(), dead("", 5, 0)),
		withEach(oddKeys(), entry("", 5, 1, longValue)),
		entriesOf(many[:most], 0),
		entriesOf(many[:most+1], 0),
		entriesOf(many, 0),
		entriesOf(many, 500),
		entriesOf(eachOf(many, 0, 2), 100),
		entriesOf(eachOf(many, 1, 2), 0),
		entriesOf(many[500:], 7),
	}
}

// mapsOver are all maps that have under each of these keys none of the choices, or one of them.
func mapsOver(keys []string, choices ...api.Entry) [][]api.Entry {
	l := [][]api.Entry{nil}
	for _, key := range keys {
		for _, shorter := range l {
			for _, e := range choices {
				e.Key = key
				l = append(l, append(slices.Clone(shorter), e))
			}
		}
	}
	return l
}

// someMap has some of the keys, with versions that are few; of one key and one version it always has the same entry.
func someMap(rnd *rand.Rand, keys []string) []api.Entry {
	var l []api.Entry
	share := rnd.IntN(11)
	for i, key := range keys {
		counter, node := 1+rnd.IntN(4), rnd.IntN(3)
		switch {
		case rnd.IntN(10) >= share:
		case (i+counter+node)%4 == 0:
			l = append(l, dead(key, counter, node))
		default:
			l = append(l, entry(key, counter, node, strconv.Itoa(i)+"."+strconv.Itoa(counter)+"."+strconv.Itoa(node)))
		}
	}
	return l
}

// someRanges are ranges between keys, at them, and beside them, those too that have no key.
func someRanges(keys []string) []api.Range {
	l := []api.Range{whole(), from(highest), rng("", ""), rng("", highest), rng(highest, highest)}
	for i, lo := range keys {
		l = append(l, from(lo), rng(lo, lo))
		for _, hi := range keys[i:] {
			l = append(l, rng(lo, hi))
			if len(hi) < 16 {
				l = append(l, rng(lo, hi+"\x00"))
			}
		}
	}
	return l
}

// wrongRanges are ranges that may not be, with the error of each.
func wrongRanges() map[api.Range]api.Errno {
	return map[api.Range]api.Errno{
		rng("b", "a"):               api.ErrRange,
		rng("a", ""):                api.ErrRange,
		rng("a\x00", "a"):           api.ErrRange,
		rng("\xFF", "\xFE"):         api.ErrRange,
		rng(lowest, lowest[:15]):    api.ErrRange,
		openTo("a", "b"):            api.ErrRange,
		openTo("a", "a"):            api.ErrRange,
		openTo("", "\x00"):          api.ErrRange,
		openTo("b", "a"):            api.ErrRange,
		rng(tooLongKey, "z"):        api.ErrKey,
		rng("a", tooLongKey):        api.ErrKey,
		rng(tooLongKey, "a"):        api.ErrKey,
		rng("z", tooLongKey):        api.ErrKey,
		rng("", highest+"\x00"):     api.ErrKey,
		rng(lowest+"\x00", highest): api.ErrKey,
		from(tooLongKey):            api.ErrKey,
		openTo("a", tooLongKey):     api.ErrKey,
		openTo(tooLongKey, "b"):     api.ErrKey,
	}
}

// pair is what an iterator over two maps gives at once.
type pair struct{ ofA, ofB api.Entry }

func gone(pairs iter.Seq2[api.Entry, api.Entry]) []pair {
	var l []pair
	for ofA, ofB := range pairs {
		l = append(l, pair{ofA, ofB})
	}
	return l
}

func keysOf(l []api.Entry) []string {
	var keys []string
	for _, e := range l {
		keys = append(keys, e.Key)
	}
	return keys
}

// spoil writes over all of a list, and over its spare room.
func spoil[E any](l []E, with E) {
	l = l[:cap(l)]
	for i := range l {
		l[i] = with
	}
}

// roomy is a copy of l with spare room, in which stand entries that would come next.
func roomy(l []api.Entry) []api.Entry {
	spare := append(slices.Clone(l), entry(highest, greatest, 7, "spare"), entry("", greatest, 7, "spare"))
	return spare[:len(l)]
}

// short tells a list in few words.
func short(l []api.Entry) string {
	if len(l) > 4 {
		return strconv.Itoa(len(l)) + " entries from " + strconv.Quote(l[0].Key)
	}
	var words []string
	for _, e := range l {
		words = append(words, strconv.Quote(e.Key)+" "+strconv.Itoa(e.Version.Counter)+"."+strconv.Itoa(e.Version.Node)+" "+strconv.Quote(e.Value)+" "+strconv.FormatBool(e.Dead))
	}
	return "[" + strings.Join(words, ", ") + "]"
}
