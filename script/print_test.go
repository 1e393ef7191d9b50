package script_test

import (
	"strings"
	"testing"

	"tideline/api"
)

// fieldsOf are the letters of the fields that a kind has, of nkvrpi; none of a kind that is none.
func fieldsOf(kind int) string {
	for _, f := range forms() {
		if f.kind == kind {
			return f.fields
		}
	}
	return ""
}

// strays are changes of one field each: n, p, i, k, v or r, and what is done to it.
func strays() []struct {
	field  string
	change func(o *api.Op)
} {
	type stray = struct {
		field  string
		change func(o *api.Op)
	}
	var l []stray
	for _, n := range []int{1, 2, 7, 256, greatest, -1, -2, lowest} {
		l = append(l, stray{"n", func(o *api.Op) { o.Node = n }}, stray{"p", func(o *api.Op) { o.Peer = n }}, stray{"i", func(o *api.Op) { o.N = n }})
	}
	for _, s := range []string{"a", "\x00", " ", "\n", longKey, overKey, strings.Repeat("a", 500)} {
		l = append(l, stray{"k", func(o *api.Op) { o.Key = s }}, stray{"v", func(o *api.Op) { o.Value = s }})
	}
	for _, r := range []api.Range{from(""), rng("", "a"), rng("", "\x00"), rng("a", "a"), rng("a", "b"), from("a"), rng("a", ""), rng("b", "a"), {Hi: "a", Open: true}, {Lo: overKey, Open: true}, rng("", overKey)} {
		l = append(l, stray{"r", func(o *api.Op) { o.Range = r }})
	}
	return l
}

// P21.2: a command with a field that its kind does not have, set to something other than zero, has no text: one at a time.
func TestFieldsThatAKindHasNot(t *testing.T) {
	seen := 0
	for _, x := range samples() {
		for _, y := range strays() {
			if strings.Contains(fieldsOf(x.op.Kind), y.field) {
				continue
			}
			o := x.op
			y.change(&o)
			hasNone(t, o)
			seen++
		}
	}
	if seen < 1000 {
		t.Fatalf("%d commands", seen)
	}
}

// P21.2: likewise with a field that it has, which says something else then, or has no text.
func TestFieldsThatAKindHas(t *testing.T) {
	with, without := 0, 0
	for _, x := range samples() {
		for _, y := range strays() {
			o := x.op
			y.change(&o)
			if asPrinted(t, o) {
				with++
			} else {
				without++
			}
		}
	}
	if with < 300 || without < 1000 {
		t.Fatalf("%d have a text, %d have none", with, without)
	}
}

// P21.2: a Kind that is none has no text, whatever else it has.
func TestKindsThatAreNone(t *testing.T) {
	for _, kind := range []int{0, -1, -2, -17, 18, 19, 20, 100, 255, 256 + 1, 1<<32 + 1, greatest, lowest, lowest + 1} {
		hasNone(t, api.Op{Kind: kind})
		for _, x := range samples() {
			o := x.op
			o.Kind = kind
			hasNone(t, o)
		}
		for _, y := range strays() {
			o := api.Op{Kind: kind}
			y.change(&o)
			hasNone(t, o)
		}
	}
}

// P21.2: a number that a command has is not below 0.
func TestNumbersBelow0(t *testing.T) {
	for _, f := range forms() {
		for _, field := range f.fields {
			o := f.plain().op
			if !strings.ContainsRune("npi", field) {
				continue
			}
			for _, n := range []int{-1, -2, -3, -9, -10, -256, -1 << 31, -1 << 40, lowest + 1, lowest} {
				*fieldAt(&o, field) = n
				hasNone(t, o)
			}
		}
	}
	hasNone(t, open(-1, -1))
	hasNone(t, put(-1, "", ""))
	hasNone(t, of(11, -1))
}

// P21.2: a range that may not be has no text.
func TestRangesThatMayNotBe(t *testing.T) {
	bad := []api.Range{
		rng("b", "a"), rng("a", ""), rng("a\x00", "a"), rng("\xFF", "\xFE"), rng("\x00", ""), {Lo: "a", Hi: "b", Open: true}, {Hi: "\x00", Open: true}, {Hi: longKey, Open: true},
		from(overKey), rng(overKey, overKey), rng("", overKey), rng(longKey, overKey), rng("a", strings.Repeat("b", 200)), from(strings.Repeat("b", 500)), rng("", strings.Repeat("b", 1<<20)), {Lo: overKey, Hi: "a", Open: true},
	}
	for _, r := range bad {
		hasNone(t, scan(0, r))
		hasNone(t, fold(7, r))
	}
	for _, x := range goodRanges() {
		prints(t, scan(0, x.r), "scan 0 "+x.text)
		prints(t, fold(7, x.r), "fold 7 "+x.text)
	}
}

// P21.2: a text that would be too long is none, however much too long it is.
func TestTextsThatWouldBeTooLong(t *testing.T) {
	for _, n := range []int{196, 197, 198, 199, 200, 201, 300, 399, 400, 401, 402, 800, 1 << 16, 1 << 26} {
		s := strings.Repeat("L", n)
		hasNone(t, put(1000, s, ""))
		hasNone(t, put(1000, "", s))
		hasNone(t, put(1000, s[:n/2], s[n/2:]))
		hasNone(t, put(1000, s, s))
		hasNone(t, remove(1000, s))
		hasNone(t, get(1000, s))
		hasNone(t, raw(1000, s))
	}
	// Of 195 bytes it is the Node's digits that count.
	s := strings.Repeat("L", 195)
	prints(t, put(0, s, ""), "put 0 k"+hexOf(s)+" =")
	prints(t, put(10, "", s), "put 10 k ="+hexOf(s))
	hasNone(t, put(100, s, ""))
	prints(t, raw(0, s+"L"), "raw 0 ="+hexOf(s+"L"))
	prints(t, raw(99, s+"L"), "raw 99 ="+hexOf(s+"L"))
	hasNone(t, raw(100, s+"L"))
	prints(t, get(greatest, s[:187]), "get 9223372036854775807 k"+hexOf(s[:187]))
	hasNone(t, get(greatest, s[:188]))
}
