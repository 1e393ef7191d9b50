package item_test

import (
	"fmt"
	"math"
	"math/rand/v2"
	"strings"

	"tideline/api"
)

const greatest = 1 << 40 // the greatest Counter that may be

var (
	longKey      = strings.Repeat("k", 16)
	tooLongKey   = strings.Repeat("k", 17)
	longValue    = strings.Repeat("v", 32)
	tooLongValue = strings.Repeat("v", 33)
)

func version(counter, node int) api.Version { return api.Version{Counter: counter, Node: node} }

func entry(key string, counter, node int, value string) api.Entry {
	return api.Entry{Key: key, Version: version(counter, node), Value: value}
}

func dead(key string, counter, node int) api.Entry {
	return api.Entry{Key: key, Version: version(counter, node), Dead: true}
}

// anyVersions are versions by rising newness; those too that may not be.
func anyVersions() []api.Version {
	var l []api.Version
	for _, counter := range []int{math.MinInt, -1, 0, 1, 2, 300, greatest - 1, greatest, greatest + 1, math.MaxInt} {
		for _, node := range []int{math.MinInt, -1, 0, 1, 7, 8, math.MaxInt} {
			l = append(l, version(counter, node))
		}
	}
	return l
}

func goodVersion(v api.Version) bool {
	return v.Counter >= 1 && v.Counter <= greatest && v.Node >= 0 && v.Node <= 7
}

// anyEntries are entries of all sorts; those too that may not be.
func anyEntries() []api.Entry {
	var l []api.Entry
	for _, v := range anyVersions() {
		for _, key := range []string{"", "a", "\x00\xff", longKey, tooLongKey} {
			for _, value := range []string{"", "v", "\x00\xff ", longValue, tooLongValue} {
				l = append(l, api.Entry{Key: key, Version: v, Value: value}, api.Entry{Key: key, Version: v, Value: value, Dead: true})
			}
		}
	}
	return l
}

// firstWrong goes by the words of P3.2, one behind the other.
func firstWrong(e api.Entry) api.Errno {
	if len(e.Key) > 16 {
		return api.ErrKey
	}
	if !goodVersion(e.Version) {
		return api.ErrVersion
	}
	if len(e.Value) > 32 {
		return api.ErrValue
	}
	if e.Dead && len(e.Value) > 0 {
		return api.ErrDead
	}
	return api.OK
}

func goodEntries() []api.Entry {
	var l []api.Entry
	for _, e := range anyEntries() {
		if firstWrong(e) == api.OK {
			l = append(l, e)
		}
	}
	return l
}

func someBytes(rnd *rand.Rand, most int) string {
	b := make([]byte, rnd.IntN(most+1))
	for i := range b {
		b[i] = byte(rnd.IntN(256))
	}
	return string(b)
}

func someEntry(rnd *rand.Rand) api.Entry {
	counter := max(1, int(rnd.Uint64()>>(23+rnd.IntN(41))))
	if rnd.IntN(2) == 0 {
		return dead(someBytes(rnd, 16), min(counter, greatest), rnd.IntN(8))
	}
	return entry(someBytes(rnd, 16), min(counter, greatest), rnd.IntN(8), someBytes(rnd, 32))
}

// oneChanged tells s with a byte of it changed, left out or added; letters are those that may come in.
func oneChanged(rnd *rand.Rand, s, letters string) string {
	letter := string(letters[rnd.IntN(len(letters))])
	at := rnd.IntN(len(s) + 1)
	switch {
	case at == len(s) || rnd.IntN(3) == 0:
		return s[:at] + letter + s[at:]
	case rnd.IntN(2) == 0:
		return s[:at] + letter + s[at+1:]
	}
	return s[:at] + s[at+1:]
}

func told(e api.Entry) string { return fmt.Sprintf("%#v", e) }
