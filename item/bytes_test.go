package item_test

import (
	"math/rand/v2"
	"testing"

	"tideline/api"
	"tideline/item"
	"tideline/nums"
)

// someForms are entries with their bytes.
func someForms() []struct {
	e     api.Entry
	bytes string
} {
	return []struct {
		e     api.Entry
		bytes string
	}{
		{entry("a", 300, 1, "bc"), "\x01a\xac\x02\x01\x00\x02bc"},
		{dead("a", 300, 1), "\x01a\xac\x02\x01\x01"},
		{entry("", 1, 0, ""), "\x00\x01\x00\x00\x00"},
		{dead("", 1, 0), "\x00\x01\x00\x01"},
		{entry("\x00\xff", 127, 7, "\xff\x00"), "\x02\x00\xff\x7f\x07\x00\x02\xff\x00"},
		{entry(longKey, greatest, 7, longValue), "\x10" + longKey + "\x80\x80\x80\x80\x80\x20\x07\x00\x20" + longValue},
		{dead(longKey, greatest, 7), "\x10" + longKey + "\x80\x80\x80\x80\x80\x20\x07\x01"},
	}
}

// P3.4
func TestForms(t *testing.T) {
	for _, x := range someForms() {
		if b, e := item.Bytes(x.e); string(b) != x.bytes || e != api.OK {
			t.Errorf("Bytes(%s): %x, %d, want %x", told(x.e), b, e, x.bytes)
		}
		if y, e := item.Of([]byte(x.bytes)); y != x.e || e != api.OK {
			t.Errorf("Of(%x): %s, %d, want %s", x.bytes, told(y), e, told(x.e))
		}
	}
}

// P3.4
func TestPutLaysBehindWhatIsThere(t *testing.T) {
	w := nums.NewWriter()
	w.Text("ahead")
	want := "\x05ahead"
	for _, x := range someForms() {
		item.Put(w, x.e)
		want += x.bytes
		if got := string(w.Bytes()); got != want {
			t.Fatalf("behind Put(%s): %x, want %x", told(x.e), got, want)
		}
	}
}

// P3.4, R2
func TestEntriesThatMayNotBeHaveNoBytes(t *testing.T) {
	for _, x := range anyEntries() {
		want := firstWrong(x)
		if want == api.OK {
			continue
		}
		if b, e := item.Bytes(x); len(b) != 0 || e != want {
			t.Errorf("Bytes(%s): %x, %d, want %d", told(x), b, e, want)
		}
		w := nums.NewWriter()
		w.Num(5)
		item.Put(w, x)
		if string(w.Bytes()) != "\x05" {
			t.Errorf("Put(%s): %x", told(x), w.Bytes())
		}
	}
}

// P3.4
func TestGetOneBehindTheOther(t *testing.T) {
	all, ends := "\x09", []int{}
	for _, x := range someForms() {
		all += x.bytes
		ends = append(ends, len(all))
	}
	r := nums.NewReader([]byte(all))
	r.Num(9)
	for i, x := range someForms() {
		if e := item.Get(r); e != x.e || r.At() != ends[i] || r.Err() != api.OK {
			t.Fatalf("Get: %s, At %d, Err %d, want %s, At %d", told(e), r.At(), r.Err(), told(x.e), ends[i])
		}
	}
	if r.Done() != api.OK {
		t.Errorf("Done %d", r.Done())
	}
}

// broken are bytes at which Get breaks: where, and with what.
func broken() []struct {
	b    string
	at   int
	want api.Errno
} {
	return []struct {
		b    string
		at   int
		want api.Errno
	}{
		{"", 0, api.ErrShort},
		// The Key.
		{"\x02a", 0, api.ErrShort},
		{"\x80\x00", 0, api.ErrForm},
		{"\x11" + tooLongKey + "\x01\x00\x01", 0, api.ErrBig},
		{"\x11", 0, api.ErrBig},
		// The Counter.
		{"\x01a", 2, api.ErrShort},
		{"\x01a\x80", 2, api.ErrShort},
		{"\x01a\x81\x00\x00\x01", 2, api.ErrForm},
		{"\x01a\x81\x80\x80\x80\x80\x20\x00\x01", 2, api.ErrBig},
		{"\x01a\xff\xff\xff\xff\xff\xff\xff\xff\x7f\x00\x01", 2, api.ErrBig},
		{"\x01a\xff\xff\xff\xff\xff\xff\xff\xff\xff\x00\x01", 2, api.ErrForm},
		// The Node.
		{"\x01a\x01", 3, api.ErrShort},
		{"\x00\x01\x08", 2, api.ErrBig},
		{"\x00\x01\x08\x01", 2, api.ErrBig},
		{"\x00\x01\x80\x00\x01", 2, api.ErrForm},
		// The flag.
		{"\x00\x01\x00", 3, api.ErrShort},
		{"\x00\x01\x00\x02\x00", 3, api.ErrForm},
		{"\x00\x01\x00\xff", 3, api.ErrForm},
		// The Value.
		{"\x00\x01\x00\x00", 4, api.ErrShort},
		{"\x00\x01\x00\x00\x02v", 4, api.ErrShort},
		{"\x00\x01\x00\x00\x21" + tooLongValue, 4, api.ErrBig},
		{"\x00\x01\x00\x00\x80\x00", 4, api.ErrForm},
		// A Counter of 0: only behind all else.
		{"\x00\x00\x00\x00\x00", 5, api.ErrVersion},
		{"\x00\x00\x00\x01", 4, api.ErrVersion},
		{"\x01a\x00\x07\x00\x01v", 7, api.ErrVersion},
		{"\x00\x00\x00\x01\x55", 4, api.ErrVersion},
		{"\x00\x00", 2, api.ErrShort},
		{"\x00\x00\x08", 2, api.ErrBig},
		{"\x00\x00\x00\x02", 3, api.ErrForm},
		{"\x00\x00\x00\x00\x01", 4, api.ErrShort},
	}
}

// P3.4, R2
func TestGetBreaks(t *testing.T) {
	for _, x := range broken() {
		for _, ahead := range []string{"", "\x01"} {
			r := nums.NewReader([]byte(ahead + x.b))
			if ahead != "" && !r.Flag() {
				t.Fatalf("the flag ahead of %x", x.b)
			}
			e := item.Get(r)
			if e != (api.Entry{}) || r.At() != len(ahead)+x.at || r.Err() != x.want {
				t.Errorf("Get of %x: %s, At %d, Err %d, want At %d, %d", x.b, told(e), r.At()-len(ahead), r.Err(), x.at, x.want)
			}
			at := r.At()
			if e := item.Get(r); e != (api.Entry{}) || r.At() != at || r.Err() != x.want {
				t.Errorf("a second Get of %x: %s, At %d, Err %d", x.b, told(e), r.At(), r.Err())
			}
		}
		if e, wrong := item.Of([]byte(x.b)); e != (api.Entry{}) || wrong != x.want {
			t.Errorf("Of(%x): %s, %d, want %d", x.b, told(e), wrong, x.want)
		}
	}
}

// P3.4
func TestGetOfABrokenReader(t *testing.T) {
	for _, x := range someForms() {
		r := nums.NewReader([]byte(x.bytes))
		r.Fail(api.ErrArg)
		if e := item.Get(r); e != (api.Entry{}) || r.At() != 0 || r.Err() != api.ErrArg {
			t.Errorf("Get: %s, At %d, Err %d", told(e), r.At(), r.Err())
		}
	}
}

// P3.4
func TestBytesCutShortOrGoneOn(t *testing.T) {
	for _, x := range someForms() {
		for size := range len(x.bytes) {
			if e, wrong := item.Of([]byte(x.bytes[:size])); e != (api.Entry{}) || wrong != api.ErrShort {
				t.Errorf("Of(%x), cut short: %s, %d", x.bytes[:size], told(e), wrong)
			}
		}
		for _, rest := range []string{"\x00", "\xff", x.bytes} {
			if e, wrong := item.Of([]byte(x.bytes + rest)); e != (api.Entry{}) || wrong != api.ErrRest {
				t.Errorf("Of(%x), gone on: %s, %d", x.bytes+rest, told(e), wrong)
			}
		}
	}
	if _, wrong := item.Of(nil); wrong != api.ErrShort {
		t.Errorf("Of(nil): %d", wrong)
	}
}

// R3
func TestBytesAreNewMemory(t *testing.T) {
	e := entry("a", 300, 1, "bc")
	first, _ := item.Bytes(e)
	second, _ := item.Bytes(e)
	room := append([]byte(nil), first...)
	room = append(room, "behind"...)
	back, _ := item.Of(room[:len(first)])
	for i := range first[:cap(first)] {
		first[:cap(first)][i] = 'X'
	}
	if string(second) != "\x01a\xac\x02\x01\x00\x02bc" {
		t.Errorf("a change of one answer is seen: %x", second)
	}
	if string(room) != string(second)+"behind" {
		t.Errorf("what was handed in was changed: %x", room)
	}
	for i := range room {
		room[i] = 'X'
	}
	if back != e {
		t.Errorf("a change of what was handed in is seen: %s", told(back))
	}
}

// P3.6
func TestBytesThereAndBack(t *testing.T) {
	entries := goodEntries()
	rnd := rand.New(rand.NewPCG(3, 4))
	for range 5000 {
		entries = append(entries, someEntry(rnd))
	}
	whose := map[string]api.Entry{}
	for _, x := range entries {
		b, e := item.Bytes(x)
		if e != api.OK {
			t.Fatalf("Bytes(%s): %d", told(x), e)
		}
		if y, e := item.Of(b); y != x || e != api.OK {
			t.Fatalf("Of(%x): %s, %d, want %s", b, told(y), e, told(x))
		}
		if y, is := whose[string(b)]; is && y != x {
			t.Fatalf("%x are the bytes of %s and of %s", b, told(x), told(y))
		}
		whose[string(b)] = x
	}
}

// P3.6, R1: bytes with something wrong in them are refused, or they are another entry's.
func TestAnyBytesBackAndThere(t *testing.T) {
	rnd := rand.New(rand.NewPCG(5, 6))
	letters := "\x00\x01\x02\x07\x08\x10\x11\x20\x21\x7f\x80\x81\xffab"
	accepted := 0
	for range 50000 {
		form, _ := item.Bytes(someEntry(rnd))
		b := oneChanged(rnd, string(form), letters)
		x, e := item.Of([]byte(b))
		if e != api.OK {
			if x != (api.Entry{}) {
				t.Fatalf("Of(%x): %s beside %d", b, told(x), e)
			}
			continue
		}
		accepted++
		if firstWrong(x) != api.OK {
			t.Fatalf("Of(%x): %s, which may not be", b, told(x))
		}
		if back, e := item.Bytes(x); string(back) != b || e != api.OK {
			t.Fatalf("Of(%x): %s, whose bytes are %x, %d", b, told(x), back, e)
		}
	}
	if accepted == 0 {
		t.Error("none were an entry's")
	}
}
