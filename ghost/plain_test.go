package ghost_test

import (
	"maps"
	"slices"

	"tideline/api"
	"tideline/mix"
)

// A second reading of the promises: lists, gone through from end to end, and maps of the language, by their keys.

func plainCheckEntry(e api.Entry) api.Errno {
	v := e.Version
	switch {
	case len(e.Key) > 16:
		return api.ErrKey
	case v.Counter < 1 || v.Counter > greatest || v.Node < 0 || v.Node > 7:
		return api.ErrVersion
	case len(e.Value) > 32:
		return api.ErrValue
	case e.Dead && e.Value != "":
		return api.ErrDead
	}
	return api.OK
}

func plainCheck(l []api.Entry) api.Errno {
	for i, e := range l {
		if wrong := plainCheckEntry(e); wrong != api.OK {
			return wrong
		}
		if i > 0 && !(l[i-1].Key < e.Key) {
			return api.ErrOrder
		}
	}
	return api.OK
}

func isNewer(v, w api.Version) bool {
	return v.Counter > w.Counter || v.Counter == w.Counter && v.Node > w.Node
}

func byKey(l []api.Entry) map[string]api.Entry {
	m := map[string]api.Entry{}
	for _, e := range l {
		m[e.Key] = e
	}
	return m
}

func keysOfEither(a, b []api.Entry) []string {
	m := byKey(a)
	maps.Copy(m, byKey(b))
	return slices.Sorted(maps.Keys(m))
}

// plain is a ghost: all that was written, and what each node held whenever it was seen without an error.
type plain struct {
	writes []api.Entry
	seen   map[int][][]api.Entry
}

func (p *plain) wrote(e api.Entry) api.Errno {
	if wrong := plainCheckEntry(e); wrong != api.OK {
		return wrong
	}
	for _, w := range p.writes {
		if w.Key == e.Key && w.Version.Counter == e.Version.Counter && w.Version.Node == e.Version.Node && (w.Value != e.Value || w.Dead != e.Dead) {
			return api.ErrTwice
		}
	}
	p.writes = append(p.writes, e)
	return api.OK
}

func (p *plain) written(e api.Entry) bool { return slices.Contains(p.writes, e) }

func (p *plain) held(node int) []api.Entry {
	if l := p.seen[node]; len(l) > 0 {
		return l[len(l)-1]
	}
	return nil
}

func (p *plain) sees(node int, l []api.Entry) (string, api.Errno) {
	if node < 0 || node > 7 {
		return "", api.ErrArg
	}
	if wrong := plainCheck(l); wrong != api.OK {
		return "", wrong
	}
	was, now := byKey(p.held(node)), byKey(l)
	for _, key := range keysOfEither(p.held(node), l) {
		old, had := was[key]
		e, has := now[key]
		if had && (!has || isNewer(old.Version, e.Version)) {
			return key, api.ErrBack
		}
		if has && !p.written(e) {
			return key, api.ErrForged
		}
	}
	if p.seen == nil {
		p.seen = map[int][][]api.Entry{}
	}
	p.seen[node] = append(p.seen[node], slices.Clone(l))
	return "", api.OK
}

func plainTally(l []api.Entry) api.Tally {
	t := api.Tally{Count: len(l)}
	for _, e := range l {
		sum := mix.Of(e.Key, e.Version)
		t.Sum[0] += sum[0]
		t.Sum[1] += sum[1]
	}
	return t
}

func plainIn(l []api.Entry, r api.Range) []api.Entry {
	var within []api.Entry
	for _, e := range l {
		if e.Key >= r.Lo && (r.Open || e.Key < r.Hi) {
			within = append(within, e)
		}
	}
	return within
}

// sameVersions says whether two maps have, key by key and version by version, the same.
func sameVersions(a, b []api.Entry) bool {
	return slices.EqualFunc(a, b, func(e, f api.Entry) bool { return e.Key == f.Key && e.Version == f.Version })
}

// plainSplit goes by the words of P7.1: of n things part j begins at the whole part of j * n / parts.
func plainSplit(r api.Range, keys []api.Entry, parts int) []api.Range {
	var l []api.Range
	for j := range parts {
		piece := r
		if j > 0 {
			piece.Lo = keys[j*len(keys)/parts].Key
			l[j-1].Hi, l[j-1].Open = piece.Lo, false
		}
		l = append(l, piece)
	}
	return l
}

// compared is a range that a side heard a Print of: in which turn it was said, and whether both held unlike entries there, with one tally.
type compared struct {
	r     api.Range
	turn  int
	twins bool
}

// plainCompare goes down from one range to all into which it is split, and those into which these are: of one turn they come in the order of the parts.
func plainCompare(a, b []api.Entry, branch, leaf int, r api.Range, turn int) []compared {
	sender, hearer := plainIn(a, r), plainIn(b, r)
	if turn%2 == 1 {
		sender, hearer = hearer, sender
	}
	if plainTally(sender) == plainTally(hearer) {
		return []compared{{r, turn, !sameVersions(sender, hearer)}}
	}
	l := []compared{{r, turn, false}}
	if len(hearer) > leaf {
		for _, piece := range plainSplit(r, hearer, min(branch, len(hearer))) {
			l = append(l, plainCompare(a, b, branch, leaf, piece, turn+1)...)
		}
	}
	return l
}

// plainAll is plainCompare of the whole, turn by turn.
func plainAll(a, b []api.Entry, branch, leaf int) []compared {
	l := plainCompare(a, b, branch, leaf, whole(), 0)
	slices.SortStableFunc(l, func(c, d compared) int { return c.turn - d.turn })
	return l
}

// firstOf is the first of the ranges that is one of twins; the zero one, if none is.
func firstOf(l []compared) compared {
	for _, c := range l {
		if c.twins {
			return c
		}
	}
	return compared{}
}

func plainMax(a, b []api.Entry) []api.Entry {
	inA, inB := byKey(a), byKey(b)
	var l []api.Entry
	for _, key := range keysOfEither(a, b) {
		ofA, isA := inA[key]
		ofB, isB := inB[key]
		if !isA || isB && isNewer(ofB.Version, ofA.Version) {
			l = append(l, ofB)
		} else {
			l = append(l, ofA)
		}
	}
	return l
}

// plainWrong is the first error of some lists that two sides compare.
func plainWrong(l ...[]api.Entry) api.Errno {
	for _, m := range l {
		if wrong := plainCheck(m); wrong != api.OK {
			return wrong
		}
		if len(m) > most {
			return api.ErrFull
		}
	}
	return api.OK
}

func plainTwins(a, b []api.Entry, branch, leaf int) (api.Range, bool, api.Errno) {
	if wrong := plainWrong(a, b); wrong != api.OK {
		return api.Range{}, false, wrong
	}
	if branch < 2 || branch > 16 || leaf < 1 || leaf > 32 {
		return api.Range{}, false, api.ErrArg
	}
	c := firstOf(plainAll(a, b, branch, leaf))
	return c.r, c.twins, api.OK
}

func plainJudge(a, b, x, y []api.Entry, c api.Config, refused int) (api.Verdict, api.Errno) {
	if wrong := plainWrong(a, b, x, y); wrong != api.OK {
		return api.Verdict{}, wrong
	}
	if c.Branch < 2 || c.Branch > 16 || c.Leaf < 1 || c.Leaf > 32 || refused < 0 {
		return api.Verdict{}, api.ErrArg
	}
	if n := plainMax(a, b); sameVersions(x, n) && sameVersions(y, n) {
		return api.Verdict{Kind: 1}, api.OK
	}
	if r, is, _ := plainTwins(a, b, c.Branch, c.Leaf); is {
		return api.Verdict{Kind: 2, Range: r}, api.OK
	}
	if refused > 0 {
		return api.Verdict{Kind: 3}, api.OK
	}
	return api.Verdict{}, api.OK
}
