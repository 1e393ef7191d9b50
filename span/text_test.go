package span_test

import (
	"strings"
	"testing"

	"tideline/api"
	"tideline/span"
)

// P2.7
func TestTexts(t *testing.T) {
	for _, x := range []struct {
		r    api.Range
		text string
	}{
		{rng("ab", "b"), "6162..62"},
		{span.Whole(), "..*"},
		{rng("", ""), ".."},
		{rng("a", "a"), "61..61"},
		{rng("", "\x00"), "..00"},
		{from("\xFF"), "ff..*"},
		{from("."), "2e..*"},
		{from("*"), "2a..*"},
		{rng("\x00\x0A", "\xA0"), "000a..a0"},
		{rng(long, highest), strings.Repeat("6b", 16) + ".." + strings.Repeat("ff", 16)},
	} {
		if s, e := span.Print(x.r); s != x.text || e != api.OK {
			t.Errorf("Print(%#v): %q, %d, want %q", x.r, s, e, x.text)
		}
		if r, e := span.Parse(x.text); r != x.r || e != api.OK {
			t.Errorf("Parse(%q): %#v, %d, want %#v", x.text, r, e, x.r)
		}
	}
}

// P2.7, R2
func TestPrintWrong(t *testing.T) {
	for _, x := range []struct {
		r    api.Range
		want api.Errno
	}{
		{rng("b", "a"), api.ErrRange},
		{rng("a", ""), api.ErrRange},
		{openTo("a", "b"), api.ErrRange},
		{openTo("", "b"), api.ErrRange},
		{rng("a", tooLong), api.ErrKey},
		{from(tooLong), api.ErrKey},
		{rng(tooLong, ""), api.ErrKey},
	} {
		if s, e := span.Print(x.r); s != "" || e != x.want {
			t.Errorf("Print(%#v): %q, %d, want %d", x.r, s, e, x.want)
		}
	}
}

// P2.7, R2, R7
func TestParseWrong(t *testing.T) {
	for _, s := range []string{
		"", ".", "*", "...", "....", "..**", "*..", "*..*", "..*x", "..*..", "..*..*",
		"61", "61.62", "61...62", "61.62..63", "61..62..", "61..62..63", "..61..62",
		"6..7", "6..", "..7", "616..62", "61..626",
		"6A..", "..6A", "6g..", "..g6", "0x61..62", "ab", "AB..*",
		" ..", ".. ", "61 ..62", "61..62\n", "\x00..", "+1..62",
		"61..60*", "61..*62", "61..62*",
		"62..61", "61..", "6100..61", "ff..00",
		".." + strings.Repeat("61", 17), strings.Repeat("61", 17) + "..*", strings.Repeat("61", 17) + "..62",
		strings.Repeat("61", 1000) + ".." + strings.Repeat("62", 1000),
	} {
		if r, e := span.Parse(s); r != (api.Range{}) || e != api.ErrText {
			t.Errorf("Parse(%q): %#v, %d, want ErrText", s, r, e)
		}
	}
}

// P2.7: each range that may be has a text of its own, and that is its only one.
func TestTextsOfAllSamples(t *testing.T) {
	whose := map[string]api.Range{}
	for _, r := range sampleRanges() {
		s, e := span.Print(r)
		if e != span.Check(r) {
			t.Fatalf("Print(%#v): %q, %d, want %d", r, s, e, span.Check(r))
		}
		if e != api.OK {
			continue
		}
		if other, is := whose[s]; is && other != r {
			t.Fatalf("%q is the text of %#v and of %#v", s, other, r)
		}
		whose[s] = r
		if back, e := span.Parse(s); back != r || e != api.OK {
			t.Fatalf("Parse(%q): %#v, %d, want %#v", s, back, e, r)
		}
	}
}

// P2.7: of all short texts just those are parsed that some range prints.
func TestAllShortTexts(t *testing.T) {
	texts := []string{""}
	for start := 0; len(texts[start]) < 6; start++ {
		for _, letter := range []string{"0", "a", "A", ".", "*"} {
			texts = append(texts, texts[start]+letter)
		}
	}
	for _, s := range texts {
		r, e := span.Parse(s)
		if e == api.OK {
			if back, _ := span.Print(r); back != s {
				t.Errorf("Parse(%q): %#v, whose text is %q", s, r, back)
			}
		} else if e != api.ErrText || r != (api.Range{}) {
			t.Errorf("Parse(%q): %#v, %d", s, r, e)
		}
	}
}
