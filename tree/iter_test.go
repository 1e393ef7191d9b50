package tree_test

import (
	"slices"
	"strconv"
	"testing"
)

// P6.5: the document's example.
func TestSpanExample(t *testing.T) {
	x := newTexts()
	fill(x, []line{{"b", 1, "B"}, {"a", 2, "A"}, {"c", 3, "C"}, {"b", 4, "x"}})
	var got plain
	for key, v := range x.Span(1, 9) {
		if len(got) == 0 {
			x.Put("bb", 9, "y")
		}
		got = append(got, line{key: key, value: v})
	}
	if want := (plain{{"b", 4, ""}, {"c", 3, ""}}); !slices.Equal(got, want) {
		t.Errorf("Span(1, 9): %v, want %v", got, want)
	}
	if got := x.Fold(0, 9); got != "AxyC" {
		t.Errorf("Fold behind it: %q", got)
	}
}

// P6.5: every row of rows, of trees of each size up to 25.
func TestSpan(t *testing.T) {
	for _, o := range orders() {
		for n := range 26 {
			x := newTexts()
			p := fill(x, inOrder(lines(numbered(n)), o.numbers(n)))
			for i := -1; i <= n+1; i++ {
				for j := -1; j <= n+1; j++ {
					if got, want := gone(x.Span(i, j)), p.part(i, j).told(); !slices.Equal(got, want) {
						t.Fatalf("%s: Span(%d, %d) of %d: %v, want %v", o.name, i, j, n, got, want)
					}
				}
			}
		}
	}
}

// R6: never nil, not even of no rows.
func TestIteratorsAreThere(t *testing.T) {
	for n := range 4 {
		x := newTexts()
		fill(x, lines(numbered(n)))
		if x.All() == nil {
			t.Errorf("All of %d rows: nil", n)
		}
		for _, i := range edges(n) {
			for _, j := range edges(n) {
				if x.Span(i, j) == nil {
					t.Errorf("Span(%d, %d) of %d rows: nil", i, j, n)
				}
			}
		}
	}
}

// P6.5, R6: what there was at the call, however often it is gone through, and whatever is put meanwhile.
func TestIteratorsKept(t *testing.T) {
	for _, o := range orders() {
		x := newTexts()
		keys := append(oddKeys(), numbered(20)...)
		type kept struct {
			all, some func(func(string, int) bool)
			rows      plain
			i, j      int
		}
		var l []kept
		var p plain
		for n, one := range inOrder(lines(keys), o.numbers(len(keys))) {
			i, j := n/4, n-n/5
			l = append(l, kept{x.All(), x.Span(i, j), p, i, j})
			x.Put(one.key, one.value, one.sum)
			p, _, _ = p.put(one)
			// Rows that were there get other values.
			again := p[n/2]
			again.value += 1000
			x.Put(again.key, again.value, again.sum)
			p, _, _ = p.put(again)
		}
		for range 2 {
			for n, k := range l {
				if got := gone(k.all); !slices.Equal(got, k.rows.told()) {
					t.Fatalf("%s: All of %d rows, kept: %v, want %v", o.name, n, got, k.rows.told())
				}
				if got, want := gone(k.some), k.rows.part(k.i, k.j).told(); !slices.Equal(got, want) {
					t.Fatalf("%s: Span(%d, %d) of %d rows, kept: %v, want %v", o.name, k.i, k.j, n, got, want)
				}
			}
		}
		same(t, x, p)
	}
}

// R6: what is put while an iterator is gone through, at each of its rows, is not seen by it.
func TestPutWhileGoingThrough(t *testing.T) {
	for n := range 12 {
		x := newTexts()
		p := fill(x, lines(numbered(n)))
		for round, rows := range []func(func(string, int) bool){x.All(), x.Span(0, n), x.Span(-3, n+3)} {
			var got plain
			for key, v := range rows {
				got = append(got, line{key: key, value: v})
				for _, other := range []string{key + "\x00", key + "\xff", "", key} {
					x.Put(other, 7000+round, strconv.Itoa(round))
				}
			}
			if !slices.Equal(got, p.told()) {
				t.Fatalf("round %d: %v, want %v", round, got, p.told())
			}
		}
		if want := 3*n + min(n, 1); x.Len() != want {
			t.Errorf("rows put while going through %d: Len %d, want %d", n, x.Len(), want)
		}
	}
}

// R6: left early, at each row; then gone through from its beginning again.
func TestLeftEarly(t *testing.T) {
	for n := range 30 {
		x := newTexts()
		p := fill(x, lines(numbered(n)))
		for _, rows := range []func(func(string, int) bool){x.All(), x.Span(0, n), x.Span(-1, n+1)} {
			for stop := range n {
				var got plain
				for key, v := range rows {
					got = append(got, line{key: key, value: v})
					if len(got) == stop+1 {
						break
					}
				}
				if want := p[:stop+1].told(); !slices.Equal(got, want) {
					t.Fatalf("left at row %d of %d: %v, want %v", stop, n, got, want)
				}
			}
			if got := gone(rows); !slices.Equal(got, p.told()) {
				t.Fatalf("behind that: %v, want %v", got, p.told())
			}
		}
	}
}

// R6: yield is not called any more once it has answered false.
func TestYieldThatWantsNoMore(t *testing.T) {
	x := newTexts()
	fill(x, lines(numbered(30)))
	for _, rows := range []func(func(string, int) bool){x.All(), x.Span(3, 27)} {
		for stop := range 24 {
			calls := 0
			rows(func(string, int) bool {
				calls++
				return calls <= stop
			})
			if calls != stop+1 {
				t.Fatalf("%d calls behind the one that wanted no more", calls-stop-1)
			}
		}
	}
}

// R6: within itself.
func TestWithinItself(t *testing.T) {
	x := newTexts()
	p := fill(x, lines(numbered(9)))
	for _, rows := range []func(func(string, int) bool){x.All(), x.Span(0, 9), x.Span(-1, 10)} {
		outer := 0
		for key, v := range rows {
			if key != p[outer].key || v != p[outer].value {
				t.Fatalf("outer row %d: %q, %d", outer, key, v)
			}
			inner := 0
			for key, v := range rows {
				if key != p[inner].key || v != p[inner].value {
					t.Fatalf("inner row %d: %q, %d", inner, key, v)
				}
				inner++
				if inner > outer {
					break
				}
			}
			if inner != outer+1 {
				t.Fatalf("%d inner rows, want %d", inner, outer+1)
			}
			outer++
		}
		if outer != len(p) {
			t.Fatalf("%d outer rows, want %d", outer, len(p))
		}
	}
}

// P6.5: many rows.
func TestAllOfMany(t *testing.T) {
	keys := numbered(10000)
	for _, o := range orders() {
		x := newFilled(o, len(keys))
		n := 0
		for key, v := range x.All() {
			if key != keys[n] || v != n {
				t.Fatalf("%s: row %d: %q, %d", o.name, n, key, v)
			}
			n++
		}
		if n != len(keys) {
			t.Fatalf("%s: %d rows, want %d", o.name, n, len(keys))
		}
	}
}
