package match_test

import (
	"slices"
	"testing"

	"tideline/api"
	"tideline/mix"
)

// A second reading of the promises: a side is a plain list of entries and a clock, gone through from end to end.

type plain struct {
	clock int
	held  []api.Entry
}

func plainOf(l []api.Entry) *plain { return &plain{clockOf(l), slices.Clone(l)} }

func has(r api.Range, key string) bool { return key >= r.Lo && (r.Open || key < r.Hi) }

func (m *plain) in(r api.Range) []api.Entry {
	var l []api.Entry
	for _, e := range m.held {
		if has(r, e.Key) {
			l = append(l, e)
		}
	}
	return l
}

func plainTally(l []api.Entry) api.Tally {
	t := api.Tally{Count: len(l)}
	for _, e := range l {
		sum := mix.Of(e.Key, e.Version)
		t.Sum[0] += sum[0]
		t.Sum[1] += sum[1]
	}
	return t
}

func (m *plain) print(r api.Range) api.Part { return print(r, plainTally(m.in(r))) }

// split goes by the words of P7.1: of n things part j begins at the whole part of j * n / parts.
func (m *plain) split(r api.Range, parts int) []api.Range {
	keys := m.in(r)
	var l []api.Range
	for j := range parts {
		piece := r
		if j > 0 {
			piece.Lo = keys[j*len(keys)/parts].Key
			l[j-1].Hi, l[j-1].Open = piece.Lo, false
		}
		l = append(l, piece)
	}
	return l
}

func (m *plain) compare(branch, leaf int, p api.Part) []api.Part {
	held := m.in(p.Range)
	if plainTally(held) == p.Tally {
		return nil
	}
	if len(held) <= leaf {
		return parts(items(p.Range, held...))
	}
	var l []api.Part
	for _, r := range m.split(p.Range, min(branch, len(held))) {
		l = append(l, m.print(r))
	}
	return l
}

func isNewer(a, b api.Version) bool {
	return a.Counter > b.Counter || a.Counter == b.Counter && a.Node > b.Node
}

// place is where key stands in the list, or would stand.
func place(l []api.Entry, key string) (int, bool) {
	for i, e := range l {
		if e.Key >= key {
			return i, e.Key == key
		}
	}
	return len(l), false
}

func plainLacks(mine, theirs []api.Entry) []api.Entry {
	var l []api.Entry
	for _, e := range mine {
		if i, is := place(theirs, e.Key); !is || isNewer(e.Version, theirs[i].Version) {
			l = append(l, e)
		}
	}
	return l
}

func (m *plain) exchange(p api.Part) ([]api.Part, api.Heard) {
	var answer []api.Part
	if lacking := plainLacks(m.in(p.Range), p.Entries); p.Kind == 2 && len(lacking) > 0 {
		answer = parts(reply(p.Range, lacking...))
	}
	var h api.Heard
	for _, e := range p.Entries {
		i, is := place(m.held, e.Key)
		switch {
		case !is && len(m.held) == most:
			h.Refused++
			continue
		case !is:
			m.held = slices.Insert(m.held, i, e)
		case !isNewer(e.Version, m.held[i].Version):
			continue
		}
		m.held[i] = e
		m.clock = max(m.clock, e.Version.Counter)
		h.Taken++
	}
	return answer, h
}

func (m *plain) all(branch, leaf int, l []api.Part) ([]api.Part, api.Heard) {
	var answer []api.Part
	var all api.Heard
	for _, p := range l {
		if p.Kind == 1 {
			answer = append(answer, m.compare(branch, leaf, p)...)
			continue
		}
		more, h := m.exchange(p)
		answer = append(answer, more...)
		all.Taken += h.Taken
		all.Refused += h.Refused
	}
	return answer, all
}

// asCompared holds Compare, and the store behind it, against the second reading.
func asCompared(t *testing.T, held []api.Entry, branch, leaf int, p api.Part) {
	t.Helper()
	s, m := holding(t, held), plainOf(held)
	got, want := compared(t, s, branch, leaf, p), m.compare(branch, leaf, p)
	if !same(got, want) {
		t.Fatalf("%d entries: Compare(%d, %d, %s): %s, want %s", len(held), branch, leaf, brief(p), brief(got...), brief(want...))
	}
	isAs(t, "Compare("+brief(p)+")", s, m.clock, m.held)
}

func asExchanged(t *testing.T, held []api.Entry, p api.Part) {
	t.Helper()
	s, m := holding(t, held), plainOf(held)
	got, h := exchanged(t, s, p)
	want, heard := m.exchange(p)
	if !same(got, want) || h != heard {
		t.Fatalf("%d entries: Exchange(%s): %s, %v, want %s, %v", len(held), brief(p), brief(got...), h, brief(want...), heard)
	}
	isAs(t, "Exchange("+brief(p)+")", s, m.clock, m.held)
}

func asAnswered(t *testing.T, held []api.Entry, branch, leaf int, l []api.Part) []api.Part {
	t.Helper()
	s, m := holding(t, held), plainOf(held)
	got, h := answered(t, s, branch, leaf, l)
	want, heard := m.all(branch, leaf, l)
	if !same(got, want) || h != heard {
		t.Fatalf("%d entries: All(%d, %d, %s): %s, %v, want %s, %v", len(held), branch, leaf, brief(l...), brief(got...), h, brief(want...), heard)
	}
	isAs(t, "All("+brief(l...)+")", s, m.clock, m.held)
	return got
}
