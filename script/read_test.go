package script_test

import (
	"slices"
	"strings"
	"testing"

	"tideline/api"
)

// noLines are lines that are no command's texts, but no empty ones: each of another kind of fault.
func noLines() []string {
	return []string{
		"x", " ", "bag ", " bag", "Bag", "bag 0", "put 0 k61", "put 00 k61 =", "tick", "tick -1", "tick 9223372036854775808", "scan 0 62..61", "scan 0 " + overHex + "..*", "go  1", "del 0 61", "bag\r", "\r", "\t", "\x00", "bag;bag", "# bag", "calm 1", "same", "world 2 2 1 3 1",
		"raw 0 =" + strings.Repeat("00", 197), strings.Repeat("x", longest+1), "bag" + strings.Repeat(" ", longest),
	}
}

// P21.3: texts of commands, with and without a line feed behind the last line.
func TestTextsOfCommands(t *testing.T) {
	for n := range 120 {
		lines, ops := linesOf(n*5, n), opsOf(n*5, n)
		reads(t, strings.Join(lines, "\n"), ops)
		reads(t, strings.Join(lines, "\n")+"\n", ops)
		reads(t, "\n"+strings.Join(lines, "\n"), ops)
	}
}

// P21.3: texts that are empty, or have nothing but line feeds.
func TestTextsOfNothing(t *testing.T) {
	reads(t, "", nil)
	for _, n := range []int{1, 2, 3, 10, mostLines - 1, mostLines, mostLines + 1, 3 * mostLines, 1 << 20} {
		reads(t, strings.Repeat("\n", n), nil)
	}
}

// P21.3: empty lines ahead, between and behind are passed over, and counted.
func TestEmptyLines(t *testing.T) {
	for _, n := range []int{1, 2, 3, 7, 5000} {
		feeds := strings.Repeat("\n", n)
		for _, x := range samples() {
			reads(t, feeds+x.text, []api.Op{x.op})
			reads(t, x.text+feeds, []api.Op{x.op})
			reads(t, feeds+x.text+feeds, []api.Op{x.op})
			reads(t, feeds+x.text+"\n"+feeds+x.text+feeds, []api.Op{x.op, x.op})
		}
		lines, ops := linesOf(3, 50), opsOf(3, 50)
		reads(t, strings.Join(lines, "\n"+feeds), ops)
		reads(t, feeds+strings.Join(lines, "\n"+feeds)+feeds, ops)
		for _, no := range noLines() {
			isNoText(t, feeds+no, n+1)
			isNoText(t, feeds+no+feeds, n+1)
			isNoText(t, feeds+"bag\n"+no, n+2)
			isNoText(t, "bag\n"+feeds+no, n+2)
			isNoText(t, feeds+"bag\n"+feeds+no+feeds+"bag", 2*n+2)
		}
	}
}

// P21.3: a line that is none, at every place of a text.
func TestLinesThatAreNone(t *testing.T) {
	for _, no := range noLines() {
		isNoText(t, no, 1)
		isNoText(t, no+"\n", 1)
		for n := 1; n < 12; n++ {
			for i := range n {
				lines := linesOf(i, n)
				lines[i] = no
				isNoText(t, strings.Join(lines, "\n"), i+1)
				isNoText(t, strings.Join(lines, "\n")+"\n", i+1)
			}
		}
	}
}

// P21.3: where several lines are wrong the first one is told.
func TestFirstOfSeveral(t *testing.T) {
	for _, first := range noLines() {
		for i := range 8 {
			for j := i + 1; j < 8; j++ {
				lines := linesOf(i, 8)
				lines[i], lines[j] = first, "y"
				isNoText(t, strings.Join(lines, "\n"), i+1)
				lines[i], lines[j] = "y", first
				isNoText(t, strings.Join(lines, "\n"), i+1)
			}
		}
	}
}

// P21.3: at most MaxOps commands; the number of the line that is one more is told, and empty lines are none.
func TestHowManyCommands(t *testing.T) {
	for _, n := range []int{mostLines - 1, mostLines} {
		lines, ops := linesOf(0, n), opsOf(0, n)
		reads(t, strings.Join(lines, "\n"), ops)
		reads(t, strings.Join(lines, "\n")+"\n\n\n", ops)
		reads(t, "\n\n"+strings.Join(lines, "\n\n\n"), ops)
	}
	for _, more := range []int{1, 2, 100} {
		lines := linesOf(0, mostLines+more)
		isNoText(t, strings.Join(lines, "\n"), mostLines+1)
		isNoText(t, strings.Join(lines, "\n")+"\n", mostLines+1)
		isNoText(t, "\n\n\n"+strings.Join(lines, "\n"), mostLines+4)
		isNoText(t, strings.Join(lines, "\n\n"), 2*mostLines+1)
	}
	full := strings.Join(linesOf(0, mostLines), "\n")
	isNoText(t, full+"\n\n\n\nbag\n", mostLines+4)
	for _, no := range noLines() {
		isNoText(t, full+"\n"+no, mostLines+1)
		isNoText(t, full+"\n\n"+no+"\nbag", mostLines+2)
		isNoText(t, full+"\n\nbag\n"+no, mostLines+2)
	}
}

// P21.3: a line that is none in a text of as many as may be, or of more.
func TestLinesThatAreNoneAmongMany(t *testing.T) {
	for _, n := range []int{mostLines, mostLines + 1, 2 * mostLines} {
		lines := linesOf(0, n)
		for _, i := range []int{0, 1, 2, mostLines / 2, mostLines - 2, mostLines - 1} {
			was := lines[i]
			lines[i] = "x"
			isNoText(t, strings.Join(lines, "\n"), i+1)
			lines[i] = was
		}
	}
	// An empty line in the place of a command leaves room for one more.
	lines, ops := linesOf(0, mostLines+1), opsOf(0, mostLines+1)
	for _, i := range []int{0, 1, mostLines / 2, mostLines - 1, mostLines} {
		was := lines[i]
		lines[i] = ""
		reads(t, strings.Join(lines, "\n"), slices.Delete(slices.Clone(ops), i, i+1))
		lines[i] = was
	}
}

// P21.3: a line ends at a line feed, and at nothing else.
func TestOtherLineEnds(t *testing.T) {
	for _, end := range []string{"\r", "\r\n", "\v", "\f", "\x00", "\u0085", "\u2028", "\u2029", "\\n", ";", "\x1E", "\n\r"} {
		wrong := 1
		if end[0] == '\n' {
			wrong = 2
		}
		isNoText(t, "tick 3"+end+"bag", wrong)
		isNoText(t, "bag\ntick 3"+end+"bag\n", wrong+1)
	}
}

// P21.3: a line may have MaxLine bytes, wherever it stands; the text as many as it likes.
func TestLongLinesInTexts(t *testing.T) {
	long := longLines(longest)
	var lines []string
	var ops []api.Op
	for i := range mostLines {
		lines, ops = append(lines, long[i%len(long)].text), append(ops, long[i%len(long)].op)
	}
	reads(t, strings.Join(lines, "\n"), ops)
	for _, x := range longLines(longest + 1) {
		isNoText(t, "bag\n"+x.text+"\nbag", 2)
		isNoText(t, x.text, 1)
		lines[mostLines-1] = x.text
		isNoText(t, strings.Join(lines, "\n"), mostLines)
	}
}
