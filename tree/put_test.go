package tree_test

import (
	"math/rand/v2"
	"strconv"
	"testing"

	"tideline/tree"
)

// P6.1
func TestNew(t *testing.T) {
	same(t, newTexts(), nil)
}

// P6.1, P6.4: zero is what was handed in, also where that is not the type's own.
func TestNewZero(t *testing.T) {
	x := tree.New[int, int](1, func(a, b int) int { return a * b })
	for _, i := range []int{-1, 0, 1} {
		if got := x.Fold(i, 5); got != 1 {
			t.Errorf("Fold(%d, 5) of no rows: %d, want 1", i, got)
		}
	}
	x.Put("a", 0, 6)
	x.Put("b", 0, 7)
	if none, all := x.Fold(1, 1), x.Fold(0, 2); none != 1 || all != 42 {
		t.Errorf("of none %d, want 1; of both %d, want 42", none, all)
	}
}

// P6.1, R3: trees of one zero and join have nothing in common.
func TestNewTreesApart(t *testing.T) {
	a, b := newTexts(), newTexts()
	p := fill(a, lines(numbered(20)))
	same(t, b, nil)
	b.Put("q", 1, "q")
	same(t, a, p)
}

// P6.2, P6.3, P6.4: the document's examples.
func TestExamples(t *testing.T) {
	x := newTexts()
	for _, p := range []struct {
		line
		was  int
		over bool
	}{
		{line{"b", 1, "B"}, 0, false}, {line{"a", 2, "A"}, 0, false}, {line{"c", 3, "C"}, 0, false}, {line{"b", 4, "x"}, 1, true},
	} {
		if was, over := x.Put(p.key, p.value, p.sum); was != p.was || over != p.over {
			t.Errorf("Put(%v): %d, %t, want %d, %t", p.line, was, over, p.was, p.over)
		}
	}
	same(t, x, plain{{"a", 2, "A"}, {"b", 4, "x"}, {"c", 3, "C"}})
	for _, f := range []struct {
		i, j int
		want string
	}{{0, 3, "AxC"}, {1, 3, "xC"}, {2, 2, ""}, {-5, 99, "AxC"}, {2, 1, ""}} {
		if got := x.Fold(f.i, f.j); got != f.want {
			t.Errorf("Fold(%d, %d): %q, want %q", f.i, f.j, got, f.want)
		}
	}
	for key, want := range map[string]int{"b": 1, "bb": 2, "": 0, "z": 3} {
		if got := x.Rank(key); got != want {
			t.Errorf("Rank(%q): %d, want %d", key, got, want)
		}
	}
}

// P6.2: each answer, in each order, and all that the tree tells on the way.
func TestPutInOrders(t *testing.T) {
	for _, o := range orders() {
		for _, keys := range [][]string{oddKeys(), numbered(40)} {
			x := newTexts()
			var p plain
			for _, l := range inOrder(lines(keys), o.numbers(len(keys))) {
				if was, over := x.Put(l.key, l.value, l.sum); was != 0 || over {
					t.Fatalf("%s: Put of a new key %q: %d, %t", o.name, l.key, was, over)
				}
				p, _, _ = p.put(l)
				same(t, x, p)
			}
		}
	}
}

// P6.2: the same key again and again, in a tree of that row alone and among others.
func TestPutAgain(t *testing.T) {
	for _, keys := range [][]string{nil, {"a"}, {"a", "c"}, oddKeys()} {
		for _, key := range []string{"", "\x00", "a", "b", "ab", "\xff\xff"} {
			x := newTexts()
			p := fill(x, lines(keys))
			for n := range 20 {
				l := line{key, 100 + n, strconv.Itoa(n) + ";"}
				now, was, over := p.put(l)
				if got, is := x.Put(l.key, l.value, l.sum); got != was || is != over {
					t.Fatalf("Put(%q), time %d: %d, %t, want %d, %t", key, n, got, is, was, over)
				}
				p = now
				same(t, x, p)
			}
		}
	}
}

// P6.2: every row of a tree is put anew, one behind the other.
func TestPutEachAgain(t *testing.T) {
	for _, o := range orders() {
		x := newTexts()
		keys := numbered(30)
		p := fill(x, inOrder(lines(keys), o.numbers(len(keys))))
		for i, key := range keys {
			l := line{key, -i - 1, "[" + strconv.Itoa(i) + "]"}
			if was, over := x.Put(l.key, l.value, l.sum); was != i+1 || !over {
				t.Fatalf("%s: Put again of row %d: %d, %t", o.name, i, was, over)
			}
			p, _, _ = p.put(l)
			same(t, x, p)
		}
	}
}

// P6.2, P6.3: a row whose value, summary or key is the zero one is there nevertheless.
func TestPutZeroValues(t *testing.T) {
	x := newTexts()
	x.Put("", 0, "")
	same(t, x, plain{{"", 0, ""}})
	if was, over := x.Put("", 7, "s"); was != 0 || !over {
		t.Errorf("Put over a row of the zero value: %d, %t, want 0, true", was, over)
	}
	if was, over := x.Put("", 0, ""); was != 7 || !over {
		t.Errorf("Put of the zero value over another: %d, %t, want 7, true", was, over)
	}
	same(t, x, plain{{"", 0, ""}})
}

// P6.2, P6.3: values of another kind, with one that is nil.
func TestValuesOfAnyKind(t *testing.T) {
	type pair struct {
		name string
		more []int
	}
	x := tree.New[*pair, [2]int]([2]int{}, func(a, b [2]int) [2]int { return [2]int{a[0] + b[0], max(a[1], b[1])} })
	one := &pair{"one", []int{1}}
	if was, over := x.Put("k", one, [2]int{1, 5}); was != nil || over {
		t.Errorf("the first Put: %v, %t", was, over)
	}
	if was, over := x.Put("k", nil, [2]int{1, 9}); was != one || !over {
		t.Errorf("Put over it: %v, %t", was, over)
	}
	if v, is := x.Get("k"); v != nil || !is {
		t.Errorf("Get: %v, %t, want nil, true", v, is)
	}
	x.Put("j", one, [2]int{1, 3})
	if key, v, is := x.At(0); key != "j" || v != one || !is {
		t.Errorf("At(0): %q, %v, %t", key, v, is)
	}
	if got := x.Fold(0, 2); got != [2]int{2, 9} {
		t.Errorf("Fold: %v", got)
	}
}

// P6.1 to P6.5: rows come and come again in any order, in trees of many sizes.
func TestByTheWords(t *testing.T) {
	for seed := range uint64(12) {
		rnd := rand.New(rand.NewPCG(6, seed))
		keys := append(oddKeys(), numbered(int(seed)*8)...)
		x := newTexts()
		var p plain
		for n := range 2 * len(keys) {
			l := line{keys[rnd.IntN(len(keys))], rnd.IntN(1000), strconv.Itoa(n) + ","}
			now, was, over := p.put(l)
			if got, is := x.Put(l.key, l.value, l.sum); got != was || is != over {
				t.Fatalf("Put(%q): %d, %t, want %d, %t", l.key, got, is, was, over)
			}
			p = now
			if n%6 == 0 {
				same(t, x, p)
			}
		}
		same(t, x, p)
	}
}

// R1, P6.2, P6.3, P6.5: of a join that is none nothing is promised of Fold, but all else is as ever.
func TestJoinThatIsNone(t *testing.T) {
	for _, j := range []struct {
		name string
		join func(a, b string) string
	}{
		{"nil", nil},
		{"one that panics", func(a, b string) string { panic("no") }},
		{"one that forgets", func(a, b string) string { return "" }},
		{"one that is not associative", func(a, b string) string { return "(" + a + b + ")" }},
	} {
		x := tree.New[int, string]("", j.join)
		var p plain
		for _, l := range append(lines(oddKeys()), line{"a", 70, "again"}, line{"", 71, "again"}) {
			now, was, over := p.put(l)
			if got, is := x.Put(l.key, l.value, l.sum); got != was || is != over {
				t.Fatalf("%s: Put(%q): %d, %t, want %d, %t", j.name, l.key, got, is, was, over)
			}
			p = now
			sameReads(t, x, p)
			sameAt(t, x, p)
		}
		for _, i := range edges(len(p)) {
			for _, k := range edges(len(p)) {
				x.Fold(i, k)
			}
		}
		if got := gone(x.Clone().All()); len(got) != len(p) {
			t.Errorf("%s: %d rows of %d", j.name, len(got), len(p))
		}
	}
}
