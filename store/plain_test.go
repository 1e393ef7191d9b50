package store_test

import (
	"slices"
	"strings"
	"testing"

	"tideline/api"
	"tideline/mix"
	"tideline/store"
)

// plain is a list of entries by rising keys: a second reading of the promises, without any tree.
type plain struct {
	node, clock int
	held        []api.Entry
}

func (p *plain) find(key string) (int, bool) {
	return slices.BinarySearchFunc(p.held, key, func(e api.Entry, key string) int { return strings.Compare(e.Key, key) })
}

func (p *plain) hold(e api.Entry) {
	at, is := p.find(e.Key)
	if is {
		p.held[at] = e
	} else {
		p.held = slices.Insert(p.held, at, e)
	}
}

func (p *plain) clone() *plain {
	return &plain{p.node, p.clock, slices.Clone(p.held)}
}

func (p *plain) write(e api.Entry) (api.Version, api.Errno) {
	_, is := p.find(e.Key)
	switch {
	case len(e.Key) > 16:
		return api.Version{}, api.ErrKey
	case len(e.Value) > 32:
		return api.Version{}, api.ErrValue
	case !is && len(p.held) == most:
		return api.Version{}, api.ErrFull
	case p.clock == greatest:
		return api.Version{}, api.ErrWorn
	}
	p.clock++
	e.Version = version(p.clock, p.node)
	p.hold(e)
	return e.Version, api.OK
}

func (p *plain) put(key, value string) (api.Version, api.Errno) {
	return p.write(api.Entry{Key: key, Value: value})
}

func (p *plain) del(key string) (api.Version, api.Errno) {
	return p.write(api.Entry{Key: key, Dead: true})
}

func (p *plain) take(e api.Entry) (bool, api.Errno) {
	if wrong := entryError(e); wrong != api.OK {
		return false, wrong
	}
	at, is := p.find(e.Key)
	if !is && len(p.held) == most {
		return false, api.ErrFull
	}
	if is && !newer(e.Version, p.held[at].Version) {
		return false, api.OK
	}
	p.hold(e)
	if e.Version.Counter > p.clock {
		p.clock = e.Version.Counter
	}
	return true, api.OK
}

func (p *plain) in(r api.Range) []api.Entry {
	var l []api.Entry
	for _, e := range p.held {
		if e.Key >= r.Lo && (r.Open || e.Key < r.Hi) {
			l = append(l, e)
		}
	}
	return l
}

func (p *plain) split(r api.Range, parts int) ([]api.Range, api.Errno) {
	if wrong := rangeError(r); wrong != api.OK {
		return nil, wrong
	}
	keys := keysOf(p.in(r))
	if parts < 1 || parts > len(keys) {
		return nil, api.ErrArg
	}
	var l []api.Range
	for j := 1; j < parts; j++ {
		border := keys[j*len(keys)/parts]
		l = append(l, rng(r.Lo, border))
		r.Lo = border
	}
	return append(l, r), api.OK
}

func newer(a, b api.Version) bool {
	return a.Counter > b.Counter || a.Counter == b.Counter && a.Node > b.Node
}

// entryError goes by the words of P3.2.
func entryError(e api.Entry) api.Errno {
	switch v := e.Version; {
	case len(e.Key) > 16:
		return api.ErrKey
	case v.Counter < 1 || v.Counter > greatest || v.Node < 0 || v.Node > 7:
		return api.ErrVersion
	case len(e.Value) > 32:
		return api.ErrValue
	case e.Dead && e.Value != "":
		return api.ErrDead
	}
	return api.OK
}

// rangeError goes by the words of P2.1.
func rangeError(r api.Range) api.Errno {
	switch {
	case len(r.Lo) > 16 || len(r.Hi) > 16:
		return api.ErrKey
	case r.Open && r.Hi != "" || !r.Open && r.Lo > r.Hi:
		return api.ErrRange
	}
	return api.OK
}

// loadError goes by the words of P8.2.
func loadError(node, clock int, l []api.Entry) api.Errno {
	switch {
	case node < 0 || node > 7 || clock < 0 || clock > greatest:
		return api.ErrArg
	case len(l) > most:
		return api.ErrFull
	}
	for i, e := range l {
		if wrong := entryError(e); wrong != api.OK {
			return wrong
		}
		if i > 0 && e.Key <= l[i-1].Key {
			return api.ErrOrder
		}
		if e.Version.Counter > clock {
			return api.ErrVersion
		}
	}
	return api.OK
}

func living(l []api.Entry) []api.Entry {
	return slices.DeleteFunc(slices.Clone(l), func(e api.Entry) bool { return e.Dead })
}

// tallyOf goes by the words of a tally: how many, and the sum of what mix.Of makes of each.
func tallyOf(l []api.Entry) api.Tally {
	var f api.Tally
	for _, e := range l {
		s := mix.Of(e.Key, e.Version)
		f.Count++
		f.Sum[0] += s[0]
		f.Sum[1] += s[1]
	}
	return f
}

// near are some of the held keys, and texts beside them.
func near(p *plain) []string {
	l := append(oddKeys(), "zz", tooLongKey)
	step := max(1, len(p.held)/4)
	for i := 0; i < len(p.held); i += step {
		key := p.held[i].Key
		l = append(l, key, key+"\x00", key+"\xFF")
		if key != "" {
			l = append(l, key[:len(key)-1])
		}
	}
	slices.Sort(l)
	return slices.Compact(l)
}

// same holds all that a store answers against a plain list.
func same(t *testing.T, s *store.Store, p *plain) {
	t.Helper()
	if s.Node() != p.node || s.Clock() != p.clock || s.Len() != len(p.held) {
		t.Fatalf("node %d, clock %d, Len %d; want %d, %d, %d", s.Node(), s.Clock(), s.Len(), p.node, p.clock, len(p.held))
	}
	borders := near(p)
	for _, key := range borders {
		sameGet(t, s, p, key)
	}
	for _, lo := range borders {
		sameRange(t, s, p, from(lo))
		for _, hi := range borders {
			sameRange(t, s, p, rng(lo, hi))
		}
		sameRange(t, s, p, openTo(lo, "b"))
	}
}

func sameGet(t *testing.T, s *store.Store, p *plain, key string) {
	t.Helper()
	var want api.Entry
	wrong := api.OK
	at, is := p.find(key)
	if is {
		want = p.held[at]
	}
	if len(key) > 16 {
		wrong = api.ErrKey
	}
	if got, there, e := s.Get(key); got != want || there != is || e != wrong {
		t.Fatalf("Get(%q): %v, %t, %d, want %v, %t, %d", key, got, there, e, want, is, wrong)
	}
}

func sameRange(t *testing.T, s *store.Store, p *plain, r api.Range) {
	t.Helper()
	if wrong := rangeError(r); wrong != api.OK {
		refused(t, s, r, wrong)
		return
	}
	want := p.in(r)
	if got := allOf(t, s, r); !slices.Equal(got, want) {
		t.Fatalf("All(%#v): %v, want %v", r, got, want)
	}
	if got := scanOf(t, s, r); !slices.Equal(got, living(want)) {
		t.Fatalf("Scan(%#v): %v, want %v", r, got, living(want))
	}
	if got := foldOf(t, s, r); got != tallyOf(want) {
		t.Fatalf("Fold(%#v): %v, want %v", r, got, tallyOf(want))
	}
	for _, parts := range []int{2, len(want), len(want) + 1} {
		sameSplit(t, s, p, r, parts)
	}
}

func sameSplit(t *testing.T, s *store.Store, p *plain, r api.Range, parts int) {
	t.Helper()
	want, wrong := p.split(r, parts)
	if got, e := s.Split(r, parts); !slices.Equal(got, want) || e != wrong {
		t.Fatalf("Split(%#v, %d): %v, %d, want %v, %d", r, parts, got, e, want, wrong)
	}
}

// refused asks every call that takes a range for that error, and nothing beside it.
func refused(t *testing.T, s *store.Store, r api.Range, want api.Errno) {
	t.Helper()
	if entries, e := s.Scan(r); entries != nil || e != want {
		t.Fatalf("Scan(%#v): an iterator %t, %d, want %d", r, entries != nil, e, want)
	}
	if entries, e := s.All(r); entries != nil || e != want {
		t.Fatalf("All(%#v): an iterator %t, %d, want %d", r, entries != nil, e, want)
	}
	if f, e := s.Fold(r); f != (api.Tally{}) || e != want {
		t.Fatalf("Fold(%#v): %v, %d, want %d", r, f, e, want)
	}
	for _, parts := range []int{-1, 0, 1, 2, most + 1} {
		if l, e := s.Split(r, parts); len(l) != 0 || e != want {
			t.Fatalf("Split(%#v, %d): %v, %d, want %d", r, parts, l, e, want)
		}
	}
}
