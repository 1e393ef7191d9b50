package image_test

import (
	"tideline/api"
)

// A second reading of the promises: an image is written by the words of layers 1, 3 and 10, without them; and bytes are an image, if whatever they say, in however odd a form, is what a store may be made of, and written down is those bytes again.

func numBytes(n int) string {
	if n < 128 {
		return string([]byte{byte(n)})
	}
	return string([]byte{byte(n%128 + 128)}) + numBytes(n/128)
}

func textBytes(s string) string { return numBytes(len(s)) + s }

func entryBytes(e api.Entry) string {
	head := textBytes(e.Key) + numBytes(e.Version.Counter) + numBytes(e.Version.Node)
	if e.Dead {
		return head + "\x01"
	}
	return head + "\x00" + textBytes(e.Value)
}

func entriesBytes(l []api.Entry) string {
	all := ""
	for _, e := range l {
		all += entryBytes(e)
	}
	return all
}

func header(node, clock, count int) string {
	return "\x04tide" + numBytes(node) + numBytes(clock) + numBytes(count)
}

func (x sample) image() string { return header(x.node, x.clock, len(x.l)) + entriesBytes(x.l) }

// lax reads numbers, texts and flags in whatever form, and noughts where nothing is left.
type lax struct{ rest string }

func (r *lax) next() int {
	if r.rest == "" {
		return 0
	}
	b := r.rest[0]
	r.rest = r.rest[1:]
	return int(b)
}

func (r *lax) num() int {
	n := 0
	for shift := 0; shift < 70; shift += 7 {
		b := r.next()
		n |= b % 128 << shift
		if b < 128 {
			break
		}
	}
	return n
}

func (r *lax) text() string {
	n := r.num()
	if n < 0 || n > len(r.rest) {
		n = len(r.rest)
	}
	s := r.rest[:n]
	r.rest = r.rest[n:]
	return s
}

func (r *lax) entry() api.Entry {
	var e api.Entry
	e.Key = r.text()
	e.Version.Counter = r.num()
	e.Version.Node = r.num()
	e.Dead = r.next() != 0
	if !e.Dead {
		e.Value = r.text()
	}
	return e
}

// read tells what some bytes say, and whether they are an image.
func read(b string) (sample, bool) {
	r := &lax{b}
	r.text()
	x := sample{node: r.num(), clock: r.num()}
	count := r.num()
	if count < 0 || count > most {
		return sample{}, false
	}
	for range count {
		x.l = append(x.l, r.entry())
	}
	return x, x.mayBe() && x.image() == b
}

// mayBe goes by the words of P8.2 and P3.2.
func (x sample) mayBe() bool {
	if x.node < 0 || x.node > 7 || x.clock < 0 || x.clock > greatest || len(x.l) > most {
		return false
	}
	for i, e := range x.l {
		v := e.Version
		switch {
		case len(e.Key) > 16, len(e.Value) > 32, e.Dead && e.Value != "":
			return false
		case v.Counter < 1, v.Counter > x.clock, v.Node < 0, v.Node > 7:
			return false
		case i > 0 && e.Key <= x.l[i-1].Key:
			return false
		}
	}
	return true
}
