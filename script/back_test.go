package script_test

import (
	"strings"
	"testing"

	"tideline/api"
	"tideline/script"
)

// everyCommand has every kind, with each of its fields at all of its edges.
func everyCommand() []api.Op {
	var l []api.Op
	for _, f := range forms() {
		ops := []api.Op{{Kind: f.kind}}
		for _, field := range f.fields {
			var next []api.Op
			for _, o := range ops {
				next = append(next, spread(o, field)...)
			}
			ops = next
		}
		l = append(l, ops...)
	}
	return l
}

// spread is a command with one of its fields at all of its edges.
func spread(o api.Op, field rune) []api.Op {
	var l []api.Op
	switch field {
	case 'n', 'p', 'i':
		for _, x := range goodNumbers() {
			*fieldAt(&o, field) = x.n
			l = append(l, o)
		}
	case 'k', 'v':
		for _, x := range goodBytes() {
			if field == 'k' {
				o.Key = x.data
			} else {
				o.Value = x.data
			}
			l = append(l, o)
		}
	case 'r':
		for _, x := range goodRanges() {
			o.Range = x.r
			l = append(l, o)
		}
	}
	return l
}

// P21.5: Parse of Print is the command; and Print of Parse the line.
func TestThereAndBack(t *testing.T) {
	all := everyCommand()
	seen, long := map[string]int{}, 0
	for i, o := range all {
		s, e := script.Print(o)
		if _, is := plainPrint(o); !is {
			hasNone(t, o)
			long++
			continue
		}
		if e != api.OK {
			t.Fatalf("Print(%s): error %d", brief(o), e)
		}
		parses(t, s, o)
		prints(t, o, s)
		if was, twice := seen[s]; twice {
			t.Fatalf("%s and %s: both are %s", brief(all[was]), brief(o), short(s))
		}
		seen[s] = i
	}
	if len(seen) < 5000 || long > 50 {
		t.Fatalf("%d commands with a text, %d without", len(seen), long)
	}
}

// P21.5: Read of the Prints of commands, with a line feed behind the last one, and without.
func TestTextsThereAndBack(t *testing.T) {
	var lines []string
	var ops []api.Op
	for i, o := range everyCommand() {
		s, e := script.Print(o)
		if i%3 != 0 || e != api.OK {
			continue
		}
		lines, ops = append(lines, s), append(ops, o)
	}
	for first := 0; first < len(ops); first += 100 {
		last := min(first+150, len(ops))
		reads(t, strings.Join(lines[first:last], "\n"), ops[first:last])
		reads(t, strings.Join(lines[first:last], "\n")+"\n", ops[first:last])
	}
	most := min(len(ops), mostLines)
	reads(t, strings.Join(lines[:most], "\n"), ops[:most])
	for _, n := range []int{1, 2, 3, mostLines} {
		for i := range 20 {
			text := strings.Join(linesOf(i, n), "\n")
			reads(t, text, opsOf(i, n))
			reads(t, text+"\n", opsOf(i, n))
		}
	}
}
