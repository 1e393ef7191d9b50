// Package nums is layer 1: see shared/doc/01-nums.md.
package nums

import (
	"slices"
	"strconv"
	"strings"

	"tideline/api"
)

const (
	more      = 128 // what is added to each byte of a number but the last one
	numBits   = 7   // bits of a number that stand in one of its bytes
	numLen    = 9   // bytes of the longest number: 63 bits need no more
	wordLen   = 8
	byteBits  = 8
	hexDigits = "0123456789abcdef"
)

// Writer lays numbers and texts down as bytes.
type Writer struct{ laid []byte }

func NewWriter() *Writer { return &Writer{} }

func (w *Writer) Num(n int) {
	n = max(n, 0)
	for n >= more {
		w.laid = append(w.laid, byte(n%more+more))
		n /= more
	}
	w.laid = append(w.laid, byte(n))
}

func (w *Writer) Text(s string) {
	w.Num(len(s))
	w.laid = append(w.laid, s...)
}

func (w *Writer) Word(u uint64) {
	for i := range wordLen {
		w.laid = append(w.laid, byte(u>>(byteBits*(wordLen-1-i))))
	}
}

func (w *Writer) Flag(is bool) {
	b := byte(0)
	if is {
		b = 1
	}
	w.laid = append(w.laid, b)
}

func (w *Writer) Len() int { return len(w.laid) }

// Bytes tells a copy, so that neither the caller nor a later call of the writer changes the other's bytes.
func (w *Writer) Bytes() []byte { return slices.Clone(w.laid) }

// Reader reads them.
type Reader struct {
	data string // a copy of the bytes, as their owner may change them later
	at   int
	err  api.Errno
}

func NewReader(b []byte) *Reader { return &Reader{data: string(b)} }

func (r *Reader) Num(most int) int {
	if r.err != api.OK {
		return 0
	}
	n, size, e := firstNum(r.data[r.at:], most)
	r.at += size
	r.Fail(e)
	return n
}

// firstNum tells the number that s begins with, and how many bytes it has.
func firstNum(s string, most int) (int, int, api.Errno) {
	n, size := 0, 0
number:
	for {
		if size == len(s) {
			return 0, 0, api.ErrShort
		}
		b := int(s[size])
		n += b % more << (numBits * size)
		size++
		switch {
		case b < more:
			break number
		case size < numLen:
			continue number
		}
		return 0, 0, api.ErrForm
	}
	switch {
	case size > 1 && s[size-1] == 0:
		// The same number can be written without its last byte.
		return 0, 0, api.ErrForm
	case n > most:
		return 0, 0, api.ErrBig
	}
	return n, size, api.OK
}

func (r *Reader) Text(most int) string {
	start := r.at
	// Of a reader that is broken, or breaks here, the number is 0: nothing is read below, and it stays where it is.
	n := r.Num(most)
	if n > r.Left() {
		r.at = start
		r.Fail(api.ErrShort)
		return ""
	}
	r.at += n
	return r.data[r.at-n : r.at]
}

func (r *Reader) Word() uint64 {
	if r.Left() < wordLen {
		r.Fail(api.ErrShort)
	}
	if r.err != api.OK {
		return 0
	}
	u := uint64(0)
	for range wordLen {
		u = u<<byteBits + uint64(r.data[r.at])
		r.at++
	}
	return u
}

func (r *Reader) Flag() bool {
	switch {
	case r.Left() == 0:
		r.Fail(api.ErrShort)
	case r.data[r.at] > 1:
		r.Fail(api.ErrForm)
	}
	if r.err != api.OK {
		return false
	}
	r.at++
	return r.data[r.at-1] == 1
}

func (r *Reader) Left() int { return len(r.data) - r.at }

func (r *Reader) At() int { return r.at }

// Fail keeps the error of a reader that is broken already: what was wrong first is told.
func (r *Reader) Fail(e api.Errno) {
	if r.err == api.OK {
		r.err = e
	}
}

func (r *Reader) Err() api.Errno { return r.err }

func (r *Reader) Done() api.Errno {
	if r.err == api.OK && r.Left() > 0 {
		return api.ErrRest
	}
	return r.err
}

func Digits(n int) string { return strconv.Itoa(max(n, 0)) }

func Parse(s string, most int) (int, api.Errno) {
	if !isNumber(s) {
		return 0, api.ErrText
	}
	n, err := strconv.Atoi(s)
	// Atoi refuses a number in this form only if it is above each int, and so above most.
	if err != nil || n > most {
		return 0, api.ErrBig
	}
	return n, api.OK
}

func isNumber(s string) bool {
	for i := range len(s) {
		if s[i] < '0' || s[i] > '9' {
			return false
		}
	}
	return s == "0" || s != "" && s[0] != '0'
}

func Hex(s string) string {
	digits := make([]byte, 0, 2*len(s))
	for i := range len(s) {
		digits = append(digits, hexDigits[s[i]/16], hexDigits[s[i]%16])
	}
	return string(digits)
}

func Unhex(s string) (string, api.Errno) {
	if len(s)%2 != 0 {
		return "", api.ErrText
	}
	data := make([]byte, 0, len(s)/2)
	for i := 0; i < len(s); i += 2 {
		high := strings.IndexByte(hexDigits, s[i])
		low := strings.IndexByte(hexDigits, s[i+1])
		if high < 0 || low < 0 {
			return "", api.ErrText
		}
		data = append(data, byte(high*16+low))
	}
	return string(data), api.OK
}
