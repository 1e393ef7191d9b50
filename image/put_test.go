package image_test

import (
	"slices"
	"testing"

	"tideline/api"
	"tideline/image"
	"tideline/store"
)

const (
	first  = "\x04tide\x03\x00\x00"
	second = "\x04tide\x03\x02\x02\x01a\x01\x03\x00\x02bc\x01b\x02\x03\x01"
)

// P10.1: the chapter's rows.
func TestPutExamples(t *testing.T) {
	s, _ := store.New(3)
	if b, e := image.Put(s); string(b) != first || e != api.OK {
		t.Errorf("Put of a new store: %q, %d", b, e)
	}
	s.Put("a", "bc")
	s.Delete("b")
	if b, e := image.Put(s); string(b) != second || e != api.OK {
		t.Errorf("Put of two entries: %q, %d", b, e)
	}
}

// P10.1: of a new store of each node, and of stores of all sorts.
func TestPut(t *testing.T) {
	for node := range 8 {
		s, _ := store.New(node)
		if b, e := image.Put(s); string(b) != "\x04tide"+string([]byte{byte(node)})+"\x00\x00" || e != api.OK {
			t.Errorf("Put of a new store of node %d: %q, %d", node, b, e)
		}
	}
	for _, x := range samples() {
		if b, e := image.Put(x.store(t)); string(b) != x.image() || e != api.OK {
			t.Errorf("Put of node %d, clock %d, %d entries: %s, %d, want %s", x.node, x.clock, len(x.l), short(string(b)), e, short(x.image()))
		}
	}
}

// P10.1: some images, byte by byte.
func TestPutBytes(t *testing.T) {
	for _, x := range []struct {
		s    sample
		want string
	}{
		{sample{0, 127, nil}, "\x04tide\x00\x7F\x00"},
		{sample{0, 128, nil}, "\x04tide\x00\x80\x01\x00"},
		{sample{7, greatest, nil}, "\x04tide\x07\x80\x80\x80\x80\x80\x20\x00"},
		{sample{7, greatest - 1, nil}, "\x04tide\x07\xFF\xFF\xFF\xFF\xFF\x1F\x00"},
		{sample{1, 300, []api.Entry{entry("", 300, 0, "")}}, "\x04tide\x01\xAC\x02\x01" + "\x00\xAC\x02\x00\x00\x00"},
		{sample{1, 300, []api.Entry{dead("", 1, 7)}}, "\x04tide\x01\xAC\x02\x01" + "\x00\x01\x07\x01"},
		{sample{1, 5, []api.Entry{entry(longKey, 5, 2, longValue)}}, "\x04tide\x01\x05\x01" + "\x10" + longKey + "\x05\x02\x00\x20" + longValue},
	} {
		if b, e := image.Put(x.s.store(t)); string(b) != x.want || e != api.OK {
			t.Errorf("Put of %v: %q, %d, want %q", x.s, b, e, x.want)
		}
	}
	full := put(t, sample{2, 9, withEach(numbered(most), dead("", 9, 2))}.store(t))
	if got, want := string(full[:13]), "\x04tide\x02\x09\x80\x02"+"\x03k\x00\x00"; got != want || len(full) != 9+most*7 {
		t.Errorf("Put of a full store: %q and %d bytes in all, want %q", got, len(full), want)
	}
}

// P10.1: never more than MaxImage bytes.
func TestPutSize(t *testing.T) {
	b := put(t, sample{7, greatest, widest()}.store(t))
	if len(b) != 5+1+6+2+most*(17+6+1+1+33) || len(b) > api.MaxImage {
		t.Errorf("the longest image has %d bytes", len(b))
	}
}

// P10.1: however the entries came, in whatever order: by Put, Delete and Take, the last of each key.
func TestPutOfWhatWasDone(t *testing.T) {
	s, _ := store.New(6)
	s.Put("b", "old")
	s.Put("c", "x")
	s.Put("", longValue)
	s.Delete("c")
	s.Take(entry("b", 40, 0, "new"))
	s.Take(entry("b", 39, 7, "older"))
	s.Take(dead("a", 7, 1))
	s.Put("d", "")
	s.Put(tooLongKey, "")
	want := sample{6, 41, []api.Entry{entry("", 3, 6, longValue), dead("a", 7, 1), entry("b", 40, 0, "new"), dead("c", 4, 6), entry("d", 41, 6, "")}}
	if b := put(t, s); string(b) != want.image() {
		t.Errorf("Put: %q, want %q", b, want.image())
	}
}

// P10.1: the clock may be above every Counter that is held, also where none is.
func TestPutClock(t *testing.T) {
	for _, clock := range stretch()[1:] {
		for _, l := range [][]api.Entry{nil, {entry("a", 1, 0, "x")}, {dead("a", (clock+1)/2, 7), entry("b", 1, 0, "")}} {
			want := sample{0, clock, l}
			if b := put(t, want.store(t)); string(b) != want.image() {
				t.Errorf("Put with the clock %d: %q, want %q", clock, b, want.image())
			}
		}
	}
}

// P10.1: the store is not changed, not its joins either; nor is an iterator that it gave.
func TestPutChangesNothing(t *testing.T) {
	for _, x := range samples() {
		s := x.store(t)
		held, _ := s.All(whole())
		joins := s.Joins()
		put(t, s)
		if n := s.Joins(); n != joins {
			t.Fatalf("%d joins, there were %d", n, joins)
		}
		x.is(t, s)
		if got := slices.Collect(held); !slices.Equal(got, x.l) {
			t.Fatalf("an iterator from before: %v, want %v", got, x.l)
		}
	}
}

// R3, R5: asked twice the answer is the same, in other memory; nothing of it is the store's.
func TestPutIsApart(t *testing.T) {
	for _, x := range samples() {
		s := x.store(t)
		one, two := put(t, s), put(t, s)
		spoil(one)
		if three := put(t, s); string(two) != x.image() || string(three) != x.image() {
			t.Fatalf("%s, then %s, want %s", short(string(two)), short(string(three)), short(x.image()))
		}
		x.is(t, s)
	}
}

// P10.1, R3: what is done to the store later is not seen in the bytes, and is in the next image.
func TestPutThenChange(t *testing.T) {
	s := sample{4, 1000, entriesOf(oddKeys())}.store(t)
	was := put(t, s)
	kept := string(was)
	for _, key := range []string{"a", "new", ""} {
		s.Put(key, "changed")
		s.Delete("b")
		s.Take(entry("aa", s.Clock()+5, 7, "taken"))
		now := sample{s.Node(), s.Clock(), heldBy(t, s)}
		if b := put(t, s); string(b) != now.image() || string(b) == kept {
			t.Fatalf("Put behind changes: %q, want %q", b, now.image())
		}
		if string(was) != kept {
			t.Fatalf("the image from before is %q, it was %q", was, kept)
		}
	}
}
