package tree_test

import (
	"iter"
	"math"
	"math/rand/v2"
	"slices"
	"strconv"
	"strings"
	"testing"

	"tideline/tree"
)

// texts have summaries that are written one behind the other: their order is seen.
type texts = tree.Tree[int, string]

func newTexts() *texts {
	return tree.New[int, string]("", func(a, b string) string { return a + b })
}

type line struct {
	key   string
	value int
	sum   string
}

func (l line) String() string {
	return strconv.Quote(l.key) + " " + strconv.Itoa(l.value) + " " + l.sum
}

// plain is a list of lines by rising keys: a second reading of the promises, without any tree.
type plain []line

func (p plain) find(key string) (int, bool) {
	return slices.BinarySearchFunc(p, key, func(l line, key string) int { return strings.Compare(l.key, key) })
}

func (p plain) put(l line) (plain, int, bool) {
	at, is := p.find(l.key)
	if !is {
		return slices.Insert(slices.Clone(p), at, l), 0, false
	}
	was := p[at].value
	p = slices.Clone(p)
	p[at] = l
	return p, was, true
}

// part goes by the words: the numbers from i, or 0, on, that are below j.
func (p plain) part(i, j int) plain {
	var some plain
	for n, l := range p {
		if n >= i && n < j {
			some = append(some, l)
		}
	}
	return some
}

func (p plain) sum() string {
	s := ""
	for _, l := range p {
		s += l.sum
	}
	return s
}

// told are lines as an iterator gives them, without summaries.
func (p plain) told() plain {
	var l plain
	for _, x := range p {
		l = append(l, line{key: x.key, value: x.value})
	}
	return l
}

func gone(rows iter.Seq2[string, int]) plain {
	var l plain
	for key, v := range rows {
		l = append(l, line{key: key, value: v})
	}
	return l
}

func fill(x *texts, l []line) plain {
	var p plain
	for _, one := range l {
		x.Put(one.key, one.value, one.sum)
		p, _, _ = p.put(one)
	}
	return p
}

// oddKeys have the empty one, some that begin others, bytes 0 and 255, long ones, and bytes that are no letters.
func oddKeys() []string {
	return []string{
		"", "\x00", "\x00\x00", "\x00\xff", "\x01", "0", "10", "9", "A", "a", "a\x00", "a\x00b", "a\xff", "aa", "aaa", "ab", "abc", "b", "ba",
		"\x7f", "\x80", "\xc3", "ä", "€", "\xfe\xff", "\xff", "\xff\x00", "\xff\xff", strings.Repeat("k", 16), strings.Repeat("k", 17),
		strings.Repeat("k", 5000), strings.Repeat("k", 4999) + "j", strings.Repeat("\x00", 300), strings.Repeat("\xff", 300),
	}
}

// numbered are keys that rise with their numbers.
func numbered(n int) []string {
	var l []string
	for i := range n {
		l = append(l, string([]byte{byte(i >> 16), byte(i >> 8), byte(i)}))
	}
	return l
}

// lines gives each key a value of its own, and a summary that no other has.
func lines(keys []string) []line {
	var l []line
	for i, key := range keys {
		l = append(l, line{key, i + 1, "<" + strconv.Itoa(i) + ">"})
	}
	return l
}

type order struct {
	name    string
	numbers func(n int) []int
}

// orders are those in which n things may come.
func orders() []order {
	return []order{
		{"rising", rising},
		{"falling", func(n int) []int { return backward(rising(n)) }},
		{"outside in", outsideIn},
		{"inside out", func(n int) []int { return backward(outsideIn(n)) }},
		{"in leaps", leaps},
		{"tallest first", tallest},
		{"mixed", mixed(1)},
		{"mixed otherwise", mixed(2)},
	}
}

func rising(n int) []int {
	l := make([]int, n)
	for i := range l {
		l[i] = i
	}
	return l
}

func backward(l []int) []int {
	slices.Reverse(l)
	return l
}

func mixed(seed uint64) func(n int) []int {
	return func(n int) []int { return rand.New(rand.NewPCG(6, seed)).Perm(n) }
}

func outsideIn(n int) []int {
	var l []int
	for lo, hi := 0, n-1; lo <= hi; lo, hi = lo+1, hi-1 {
		l = append(l, lo)
		if lo < hi {
			l = append(l, hi)
		}
	}
	return l
}

func leaps(n int) []int {
	var l []int
	for step := range 7 {
		for i := step; i < n; i += 7 {
			l = append(l, i)
		}
	}
	return l
}

// tallest begins with the middles of parts of 1, 2, 4, 7, 12, .. things, each made of the two ahead of it and one more: a tree that is balanced by heights is as tall as it can be then.
func tallest(n int) []int {
	sizes := []int{0, 1}
	for sizes[len(sizes)-1] < n {
		sizes = append(sizes, sizes[len(sizes)-1]+sizes[len(sizes)-2]+1)
	}
	type part struct{ from, height int }
	var l []int
	for parts := []part{{0, len(sizes) - 1}}; len(parts) > 0; parts = parts[1:] {
		p := parts[0]
		if p.height <= 0 {
			continue
		}
		middle := p.from + sizes[p.height-1]
		if middle < n {
			l = append(l, middle)
		}
		parts = append(parts, part{p.from, p.height - 1}, part{middle + 1, p.height - 2})
	}
	return l
}

func inOrder[E any](l []E, numbers []int) []E {
	var out []E
	for _, i := range numbers {
		out = append(out, l[i])
	}
	return out
}

// edges are numbers of rows, within a tree of n and without it.
func edges(n int) []int {
	return []int{math.MinInt, math.MinInt + 1, -1 << 32, -n - 1, -n, -2, -1, 0, 1, 2, n / 3, n / 2, n - 2, n - 1, n, n + 1, 2 * n, 1 << 32, 1<<32 + 1, math.MaxInt - 1, math.MaxInt}
}

// near are keys beside those of p: a bit lower and a bit higher ones.
func near(p plain) []string {
	l := oddKeys()
	for _, x := range p {
		l = append(l, x.key, x.key+"\x00", x.key+"\xff")
		if x.key != "" {
			l = append(l, x.key[:len(x.key)-1])
		}
	}
	return l
}

// same holds all that a tree answers against a plain list.
func same(t *testing.T, x *texts, p plain) {
	t.Helper()
	sameReads(t, x, p)
	sameAt(t, x, p)
	sameRows(t, x, p)
}

func sameReads(t *testing.T, x *texts, p plain) {
	t.Helper()
	if got := x.Len(); got != len(p) {
		t.Fatalf("Len: %d, want %d", got, len(p))
	}
	for _, key := range near(p) {
		at, is := p.find(key)
		want := 0
		if is {
			want = p[at].value
		}
		if got, there := x.Get(key); got != want || there != is {
			t.Fatalf("Get(%q): %d, %t, want %d, %t", key, got, there, want, is)
		}
		if got := x.Rank(key); got != at {
			t.Fatalf("Rank(%q): %d, want %d", key, got, at)
		}
	}
}

func sameAt(t *testing.T, x *texts, p plain) {
	t.Helper()
	for _, i := range append(edges(len(p)), rising(len(p))...) {
		var want line
		is := i >= 0 && i < len(p)
		if is {
			want = p[i]
		}
		if key, v, there := x.At(i); key != want.key || v != want.value || there != is {
			t.Fatalf("At(%d) of %d: %q, %d, %t, want %q, %d, %t", i, len(p), key, v, there, want.key, want.value, is)
		}
	}
}

func sameRows(t *testing.T, x *texts, p plain) {
	t.Helper()
	if got := gone(x.All()); !slices.Equal(got, p.told()) {
		t.Fatalf("All: %v, want %v", got, p.told())
	}
	for _, i := range edges(len(p)) {
		for _, j := range edges(len(p)) {
			some := p.part(i, j)
			if got, want := x.Fold(i, j), some.sum(); got != want {
				t.Fatalf("Fold(%d, %d) of %d: %q, want %q", i, j, len(p), got, want)
			}
			if got := gone(x.Span(i, j)); !slices.Equal(got, some.told()) {
				t.Fatalf("Span(%d, %d) of %d: %v, want %v", i, j, len(p), got, some.told())
			}
		}
	}
}
