package wire_test

import (
	"testing"

	"tideline/api"
	"tideline/frame"
	"tideline/wire"
)

// A second reading of the promises: a frame is written by the words of layers 1, 3 and 12, without them; and bytes are a frame's, if whatever they say, in however odd a form, is a frame that may be, and written down is those bytes again.

func numBytes(n int) string {
	if n < 128 {
		return string([]byte{byte(n)})
	}
	return string([]byte{byte(n%128 + 128)}) + numBytes(n/128)
}

func textBytes(s string) string { return numBytes(len(s)) + s }

func wordBytes(u uint64) string {
	b := ""
	for range 8 {
		b = string([]byte{byte(u % 256)}) + b
		u /= 256
	}
	return b
}

func entryBytes(e api.Entry) string {
	head := textBytes(e.Key) + numBytes(e.Version.Counter) + numBytes(e.Version.Node)
	if e.Dead {
		return head + "\x01"
	}
	return head + "\x00" + textBytes(e.Value)
}

func entriesBytes(l []api.Entry) string {
	all := ""
	for _, e := range l {
		all += entryBytes(e)
	}
	return all
}

func rangeBytes(r api.Range) string {
	if r.Open {
		return textBytes(r.Lo) + "\x01"
	}
	return textBytes(r.Lo) + "\x00" + textBytes(r.Hi)
}

func partBytes(p api.Part) string {
	head := numBytes(p.Kind) + rangeBytes(p.Range)
	if p.Kind == 1 {
		return head + numBytes(p.Tally.Count) + wordBytes(p.Tally.Sum[0]) + wordBytes(p.Tally.Sum[1])
	}
	return head + numBytes(len(p.Entries)) + entriesBytes(p.Entries)
}

func partsBytes(l []api.Part) string {
	all := ""
	for _, p := range l {
		all += partBytes(p)
	}
	return all
}

// header is all that stands ahead of the parts.
func header(f api.Frame, count int) string {
	s := f.Session
	return numBytes(f.From) + numBytes(f.To) + numBytes(s.Opener) + numBytes(s.Life) + numBytes(s.Number) + numBytes(f.Turn) + numBytes(count)
}

// bytesOf are those of any frame without numbers below 0, also of one that may not be.
func bytesOf(f api.Frame) string { return header(f, len(f.Parts)) + partsBytes(f.Parts) }

// lax reads numbers, texts and flags in whatever form, and noughts where nothing is left.
type lax struct{ rest string }

func (r *lax) next() int {
	if r.rest == "" {
		return 0
	}
	b := r.rest[0]
	r.rest = r.rest[1:]
	return int(b)
}

func (r *lax) num() int {
	n := 0
	for shift := 0; shift < 70; shift += 7 {
		b := r.next()
		n |= b % 128 << shift
		if b < 128 {
			break
		}
	}
	return n
}

func (r *lax) text() string {
	n := r.num()
	if n < 0 || n > len(r.rest) {
		n = len(r.rest)
	}
	s := r.rest[:n]
	r.rest = r.rest[n:]
	return s
}

func (r *lax) word() uint64 {
	u := uint64(0)
	for range 8 {
		u = u*256 + uint64(r.next())
	}
	return u
}

// count is a number of things; one that is too great is cut: written down it is another one.
func (r *lax) count(most int) int {
	if n := r.num(); n >= 0 && n <= most {
		return n
	}
	return 0
}

func (r *lax) entry() api.Entry {
	var e api.Entry
	e.Key = r.text()
	e.Version.Counter = r.num()
	e.Version.Node = r.num()
	e.Dead = r.next() != 0
	if !e.Dead {
		e.Value = r.text()
	}
	return e
}

func (r *lax) part() api.Part {
	var p api.Part
	p.Kind = r.num()
	p.Range.Lo = r.text()
	p.Range.Open = r.next() != 0
	if !p.Range.Open {
		p.Range.Hi = r.text()
	}
	if p.Kind == 1 {
		p.Tally.Count = r.num()
		p.Tally.Sum[0] = r.word()
		p.Tally.Sum[1] = r.word()
		return p
	}
	for range r.count(mostEntries) {
		p.Entries = append(p.Entries, r.entry())
	}
	return p
}

// read tells what some bytes say, and whether they are a frame's.
func read(b string) (api.Frame, bool) {
	r := &lax{b}
	f := api.Frame{From: r.num(), To: r.num(), Session: name(r.num(), r.num(), r.num()), Turn: r.num()}
	for range r.count(mostParts) {
		f.Parts = append(f.Parts, r.part())
	}
	return f, frame.Check(f) == api.OK && bytesOf(f) == b
}

// asRead holds what Decode answers against the second reading, and tells whether the bytes are a frame's.
func asRead(t *testing.T, b string) bool {
	t.Helper()
	want, is := read(b)
	f, e := wire.Decode([]byte(b))
	if is && e == api.OK && alike(f, want) {
		return true
	}
	if is || e != api.ErrFrame || !alike(f, api.Frame{}) {
		t.Fatalf("Decode(%s): %s, %d; it is a frame's: %t", short(b), brief(f), e, is)
	}
	return false
}
