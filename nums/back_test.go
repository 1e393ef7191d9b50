package nums_test

import (
	"fmt"
	"math"
	"math/rand/v2"
	"strings"
	"testing"

	"tideline/api"
	"tideline/nums"
)

// someNumbers are those around each power of two, where a number's bytes grow by one among them.
func someNumbers() []int {
	l := []int{0}
	for shift := range 63 {
		l = append(l, 1<<shift-1, 1<<shift, 1<<shift+1)
	}
	return append(l, 300, math.MaxInt64-1, math.MaxInt64)
}

// P1.6
func TestNumThereAndBack(t *testing.T) {
	for _, n := range someNumbers() {
		w := nums.NewWriter()
		w.Num(n)
		r := nums.NewReader(w.Bytes())
		if got := r.Num(n); got != n || r.Done() != api.OK {
			t.Errorf("%d: %x is read as %d, Done %d", n, w.Bytes(), got, r.Done())
		}
	}
}

// thing is one thing that is laid down, and how a reader is asked for it.
type thing struct {
	what string
	lay  func(w *nums.Writer)
	same func(r *nums.Reader) bool
}

func aThing(rnd *rand.Rand) thing {
	switch rnd.IntN(4) {
	case 0:
		n := int(rnd.Uint64() >> (1 + rnd.IntN(63)))
		return thing{fmt.Sprint("number ", n), func(w *nums.Writer) { w.Num(n) }, func(r *nums.Reader) bool { return r.Num(n) == n }}
	case 1:
		b := make([]byte, rnd.IntN(200))
		for i := range b {
			b[i] = byte(rnd.IntN(256))
		}
		s := string(b)
		return thing{fmt.Sprintf("text %q", s), func(w *nums.Writer) { w.Text(s) }, func(r *nums.Reader) bool { return r.Text(len(s)) == s }}
	case 2:
		u := rnd.Uint64()
		return thing{fmt.Sprint("word ", u), func(w *nums.Writer) { w.Word(u) }, func(r *nums.Reader) bool { return r.Word() == u }}
	}
	is := rnd.IntN(2) == 1
	return thing{fmt.Sprint("flag ", is), func(w *nums.Writer) { w.Flag(is) }, func(r *nums.Reader) bool { return r.Flag() == is }}
}

// P1.6
func TestThingsThereAndBack(t *testing.T) {
	rnd := rand.New(rand.NewPCG(1, 2))
	for range 2000 {
		w := nums.NewWriter()
		var things []thing
		var ends []int
		for range rnd.IntN(12) {
			x := aThing(rnd)
			x.lay(w)
			things = append(things, x)
			ends = append(ends, w.Len())
		}
		r := nums.NewReader(w.Bytes())
		for i, x := range things {
			if !x.same(r) || r.At() != ends[i] || r.Left() != w.Len()-ends[i] {
				t.Fatalf("%s: At %d, Err %d, want At %d", x.what, r.At(), r.Err(), ends[i])
			}
		}
		if r.Done() != api.OK {
			t.Fatalf("Done %d", r.Done())
		}
	}
}

// checkOneForm looks whether what is read from b is laid down again as it stood there.
func checkOneForm(t *testing.T, b []byte) {
	t.Helper()
	r := nums.NewReader(b)
	n := r.Num(math.MaxInt64)
	if r.Err() != api.OK {
		return
	}
	w := nums.NewWriter()
	w.Num(n)
	if string(w.Bytes()) != string(b[:r.At()]) {
		t.Errorf("%x is read as %d, which is laid down as %x", b[:r.At()], n, w.Bytes())
	}
}

// P1.6
func TestEachNumberHasOneForm(t *testing.T) {
	for i := range 256 {
		checkOneForm(t, []byte{byte(i)})
		for j := range 256 {
			checkOneForm(t, []byte{byte(i), byte(j)})
			for _, k := range []byte{0, 1, 127, 128, 255} {
				checkOneForm(t, []byte{byte(i), byte(j), k})
			}
		}
	}
	for high := range 12 {
		for last := range 256 {
			checkOneForm(t, append([]byte(strings.Repeat("\x80", high)), byte(last), 0))
			checkOneForm(t, append([]byte(strings.Repeat("\xff", high)), byte(last), 1))
		}
	}
}

// P1.6
func TestNumbersOfAnyBytesHaveOneForm(t *testing.T) {
	rnd := rand.New(rand.NewPCG(3, 4))
	for range 20000 {
		b := make([]byte, 1+rnd.IntN(11))
		for i := range b {
			b[i] = byte(rnd.IntN(256)) | 128
		}
		b[rnd.IntN(len(b))] &= 127
		checkOneForm(t, b)
	}
}

// R1
func TestReaderIsTotal(t *testing.T) {
	rnd := rand.New(rand.NewPCG(5, 6))
	for range 20000 {
		b := make([]byte, rnd.IntN(20))
		for i := range b {
			b[i] = byte(rnd.IntN(256)) & byte(rnd.IntN(256))
		}
		r := nums.NewReader(b)
		for range 6 {
			most := []int{math.MinInt64, -1, 0, 1, 7, 300, math.MaxInt64}[rnd.IntN(7)]
			at, broken := r.At(), r.Err()
			switch rnd.IntN(4) {
			case 0:
				r.Num(most)
			case 1:
				r.Text(most)
			case 2:
				r.Word()
			case 3:
				r.Flag()
			}
			if moved := r.At() > at; moved != (r.Err() == api.OK) || r.At()+r.Left() != len(b) || broken != api.OK && r.Err() != broken {
				t.Fatalf("%x: from %d to %d, Err %d to %d", b, at, r.At(), broken, r.Err())
			}
		}
	}
}
