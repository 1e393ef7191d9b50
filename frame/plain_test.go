package frame_test

import (
	"slices"

	"tideline/api"
)

// A second reading of the words: all that is wrong is written down with its place, and the first place told.

// fault is one thing that is wrong: the how manieth part has it, by which of P11.2's rules, at which of its entries, and which of the two that an entry may have.
type fault struct {
	part, rule, entry, of int
	e                     api.Errno
}

func (f fault) place() []int { return []int{f.part, f.rule, f.entry, f.of} }

func firstOf(l []fault) api.Errno {
	if len(l) == 0 {
		return api.OK
	}
	return slices.MinFunc(l, func(a, b fault) int { return slices.Compare(a.place(), b.place()) }).e
}

func plainParts(l []api.Part) api.Errno {
	all := 0
	for _, p := range l {
		all += len(p.Entries)
	}
	if len(l) > mostParts || all > mostEntries {
		return 113
	}
	var faults []fault
	// What is wrong with later parts first: the order is that of the places alone.
	for i := len(l) - 1; i >= 0; i-- {
		faults = append(faults, entryFaults(i, l[i])...)
		faults = append(faults, partFaults(i, l[i])...)
		if i > 0 && (l[i-1].Range.Open || l[i].Range.Lo < l[i-1].Range.Hi) {
			faults = append(faults, fault{part: i, rule: 3, e: 115})
		}
	}
	return firstOf(faults)
}

func partFaults(i int, p api.Part) []fault {
	var l []fault
	wrong := func(is bool, rule int, e api.Errno) {
		if is {
			l = append(l, fault{part: i, rule: rule, e: e})
		}
	}
	isPrint := p.Kind == 1
	r, t := p.Range, p.Tally
	long := len(r.Lo) > 16 || len(r.Hi) > 16
	wrong(p.Kind < 1 || p.Kind > 3, 1, 114)
	wrong(isPrint && len(p.Entries) > 0, 1, 114)
	wrong(!isPrint && (t.Count != 0 || t.Sum[0] != 0 || t.Sum[1] != 0), 1, 114)
	wrong(long, 2, 20)
	wrong(!long && r.Open && r.Hi != "", 2, 21)
	wrong(!long && !r.Open && r.Hi < r.Lo, 2, 21)
	wrong(!r.Open && r.Hi == r.Lo, 3, 115)
	wrong(isPrint && (t.Count < 0 || t.Count > 256), 4, 117)
	wrong(isPrint && t.Count == 0 && (t.Sum[0] != 0 || t.Sum[1] != 0), 4, 117)
	wrong(p.Kind == 3 && len(p.Entries) == 0, 6, 116)
	return l
}

func entryFaults(i int, p api.Part) []fault {
	if p.Kind == 1 {
		return nil
	}
	var l []fault
	for j, e := range p.Entries {
		if wrong := plainEntry(e); wrong != api.OK {
			l = append(l, fault{part: i, rule: 5, entry: j, of: 0, e: wrong})
		}
		if e.Key < p.Range.Lo || !p.Range.Open && e.Key >= p.Range.Hi {
			l = append(l, fault{part: i, rule: 5, entry: j, of: 1, e: 116})
		}
		if j > 0 && p.Entries[j-1].Key >= e.Key {
			l = append(l, fault{part: i, rule: 5, entry: j, of: 1, e: 116})
		}
	}
	return l
}

func plainEntry(e api.Entry) api.Errno {
	switch v := e.Version; {
	case len(e.Key) > 16:
		return 20
	case v.Counter < 1 || v.Counter > greatest || v.Node < 0 || v.Node > 7:
		return 30
	case len(e.Value) > 32:
		return 31
	case e.Dead && len(e.Value) > 0:
		return 32
	}
	return 0
}

func plainName(n api.Name) api.Errno {
	if n.Opener < 0 || n.Opener > 7 {
		return 110
	}
	if n.Life < 1 || n.Life > mostLives || n.Number < 1 || n.Number > mostLives {
		return 111
	}
	return 0
}

func plainEnds(f api.Frame) api.Errno {
	nodes := []int{0, 1, 2, 3, 4, 5, 6, 7}
	if !slices.Contains(nodes, f.From) || !slices.Contains(nodes, f.To) || f.From == f.To {
		return 110
	}
	if !slices.Contains([]int{f.From, f.To}, f.Session.Opener) {
		return 110
	}
	return 0
}

// plainTurn has the sender of each turn that there is.
func plainTurn(f api.Frame) api.Errno {
	other := f.From
	if f.From == f.Session.Opener {
		other = f.To
	}
	for turn := range lastTurn + 1 {
		sender := []int{f.Session.Opener, other}[turn%2]
		if turn == f.Turn && sender == f.From {
			return 0
		}
	}
	return 112
}

func plainOpening(f api.Frame) api.Errno {
	if f.Turn != 0 {
		return 0
	}
	if len(f.Parts) != 1 {
		return 114
	}
	p := f.Parts[0]
	if p.Kind != 1 || p.Range.Lo != "" || p.Range.Hi != "" || !p.Range.Open {
		return 114
	}
	return 0
}

func plainCheck(f api.Frame) api.Errno {
	for _, e := range []api.Errno{plainEnds(f), plainName(f.Session), plainTurn(f), plainParts(f.Parts), plainOpening(f)} {
		if e != 0 {
			return e
		}
	}
	return 0
}
