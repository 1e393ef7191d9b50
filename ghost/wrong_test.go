package ghost_test

import (
	"testing"

	"tideline/api"
	"tideline/ghost"
)

// wrongEntry is an entry that may not be, with the error that is told of it.
type wrongEntry struct {
	e     api.Entry
	wrong api.Errno
}

// wrongEntries may not be, by one thing, or by several, of which the first one is told.
func wrongEntries() []wrongEntry {
	l := []wrongEntry{
		{none, api.ErrVersion},
		{entry(tooLongKey, 1, 0, ""), api.ErrKey},
		{entry(highest+"\x00", 1, 0, ""), api.ErrKey},
		{entry(tooLongKey, 0, 0, tooLongValue), api.ErrKey},
		{api.Entry{Key: tooLongKey, Version: version(1, 9), Value: tooLongValue, Dead: true}, api.ErrKey},
		{entry("a", 0, 0, tooLongValue), api.ErrVersion},
		{entry("a", 1, 0, tooLongValue), api.ErrValue},
		{entry("a", 1, 0, longValue+longValue), api.ErrValue},
		{api.Entry{Key: "a", Version: version(1, 0), Value: tooLongValue, Dead: true}, api.ErrValue},
		{api.Entry{Key: "a", Version: version(1, 0), Value: "v", Dead: true}, api.ErrDead},
		{api.Entry{Key: longKey, Version: version(greatest, 7), Value: longValue, Dead: true}, api.ErrDead},
	}
	for _, counter := range outside(1, greatest) {
		l = append(l, wrongEntry{entry("a", counter, 0, ""), api.ErrVersion})
	}
	for _, node := range outside(0, allNodes-1) {
		l = append(l, wrongEntry{entry("a", 1, node, ""), api.ErrVersion}, wrongEntry{dead("a", 1, node), api.ErrVersion})
	}
	return l
}

// wrongList is a list that is no map, or is too long to be compared, with the error of that.
type wrongList struct {
	l     []api.Entry
	wrong api.Errno
}

// noMaps are lists that are no maps: by an entry, at the beginning, in the midst, at the end, or by their order; what comes first is told.
func noMaps() []wrongList {
	var l []wrongList
	for _, x := range wrongEntries() {
		l = append(l,
			wrongList{list(x.e), x.wrong},
			wrongList{list(at("\x00", 1), x.e, at("z", 1)), x.wrong},
			wrongList{list(at("z", 1), x.e), x.wrong}, // of one entry its own error comes ahead of its place
			wrongList{list(x.e, at("z", 1), at("b", 1)), x.wrong},
			wrongList{append(many(most), x.e), x.wrong},
			wrongList{list(at("z", 1), at("b", 1), x.e), api.ErrOrder},
		)
	}
	return append(l,
		wrongList{list(at("b", 1), at("a", 1)), api.ErrOrder},
		wrongList{list(at("a", 1), at("a", 1)), api.ErrOrder},
		wrongList{list(at("a", 1), at("a", 2)), api.ErrOrder},
		wrongList{list(at("a", 1), at("c", 1), at("b", 1)), api.ErrOrder},
		wrongList{list(at("a\x00", 1), at("a", 1)), api.ErrOrder},
		wrongList{list(at("\xFF", 1), at("ä", 1)), api.ErrOrder},
		wrongList{append(many(most-1), at("k", 1)), api.ErrOrder},
		wrongList{append(many(1000), at("k", 1)), api.ErrOrder},
	)
}

// tooLong are maps with more than MaxItems entries.
func tooLong() []wrongList {
	return []wrongList{{many(most + 1), api.ErrFull}, {many(2 * most), api.ErrFull}, {many(1000), api.ErrFull}}
}

// P19.1: an entry that may not be is refused with item.Check's error, and was not written.
func TestWrongWrites(t *testing.T) {
	g, p := ghost.New(), &plain{}
	all := entriesThatMayBe()
	for _, x := range all[:len(all)/2] {
		wrote(t, g, x)
		p.wrote(x)
	}
	for _, x := range wrongEntries() {
		for range 2 {
			if e := g.Wrote(x.e); e != x.wrong {
				t.Errorf("Wrote(%s): %d, want %d", quoted(x.e), e, x.wrong)
			}
			if g.Written(x.e) {
				t.Errorf("Written(%s): true", quoted(x.e))
			}
		}
	}
	asWritten(t, g, p, all)
}

// P19.1: an entry that may not be is told so, also where another one of its key and version was written.
func TestWrongAheadOfTwice(t *testing.T) {
	g := ghost.New()
	wrote(t, g, entry("a", 1, 0, ""), dead("b", 1, 0))
	for _, x := range []wrongEntry{
		{entry("a", 1, 0, tooLongValue), api.ErrValue},
		{api.Entry{Key: "a", Version: version(1, 0), Value: "v", Dead: true}, api.ErrDead},
		{api.Entry{Key: "b", Version: version(1, 0), Value: tooLongValue, Dead: true}, api.ErrValue},
		{entry("b", 1, 0, ""), api.ErrTwice},
		{dead("a", 1, 0), api.ErrTwice},
	} {
		if e := g.Wrote(x.e); e != x.wrong {
			t.Errorf("Wrote(%s): %d, want %d", quoted(x.e), e, x.wrong)
		}
	}
}

// P19.2: a number that is no node's comes ahead of a list that is no map, that ahead of what has moved back or is forged; nothing is changed, and no key is told.
func TestWrongSees(t *testing.T) {
	g := ghost.New()
	was := list(at("a", 5), at("b", 5))
	wrote(t, g, was...)
	for node := range allNodes {
		sees(t, g, node, was, "", api.OK)
	}
	for _, x := range noMaps() {
		for _, node := range outside(0, allNodes-1) {
			sees(t, g, node, x.l, "", api.ErrArg)
		}
		for _, node := range []int{0, 3, allNodes - 1} {
			sees(t, g, node, x.l, "", x.wrong)
			sees(t, g, node, append(list(at("", 1)), at("A", 1), none), "", api.ErrVersion)
		}
	}
	for node := range allNodes {
		holds(t, g, node, was)
	}
	for _, node := range outside(0, allNodes-1) {
		sees(t, g, node, nil, "", api.ErrArg)
		sees(t, g, node, was, "", api.ErrArg)
		sees(t, g, node, list(at("z", 1)), "", api.ErrArg)
	}
}

// isWrong asks Twins for that error, and for nothing beside it.
func isWrong(t *testing.T, a, b []api.Entry, branch, leaf int, want api.Errno) {
	t.Helper()
	if r, is, e := ghost.Twins(a, b, branch, leaf); r != (api.Range{}) || is || e != want {
		t.Fatalf("Twins(%s, %s, %d, %d): %s, %t, %d, want %d", short(a), short(b), branch, leaf, quoted(r), is, e, want)
	}
}

// isNotJudged asks Judge for that error, and for nothing beside it.
func isNotJudged(t *testing.T, l [4][]api.Entry, c api.Config, refused int, want api.Errno) {
	t.Helper()
	if v, e := ghost.Judge(l[0], l[1], l[2], l[3], c, refused); v != (api.Verdict{}) || e != want {
		t.Fatalf("Judge(%s, %s, %s, %s, %v, %d): %s, %d, want %d", short(l[0]), short(l[1]), short(l[2]), short(l[3]), c, refused, quoted(v), e, want)
	}
}

// P19.3: lists that are no maps, and such as are too long, the first one's error ahead of the other's; these ahead of Branch and Leaf.
func TestWrongMapsOfTwins(t *testing.T) {
	lower, upper := twins(0, 1)
	all := append(noMaps(), tooLong()...)
	for _, x := range all {
		for _, bound := range []int{0, 1, 2, 16, 33, lowInt, highInt} {
			isWrong(t, x.l, list(upper), bound, bound, x.wrong)
			isWrong(t, list(lower), x.l, bound, bound, x.wrong)
			isWrong(t, x.l, x.l, bound, bound, x.wrong)
		}
		isWrong(t, x.l, nil, 2, 1, x.wrong)
		isWrong(t, nil, x.l, 2, 1, x.wrong)
		for _, y := range []wrongList{{many(most + 1), api.ErrFull}, {list(none), api.ErrVersion}, {list(at("b", 1), at("a", 1)), api.ErrOrder}} {
			isWrong(t, x.l, y.l, 2, 1, x.wrong)
			isWrong(t, y.l, x.l, 0, 0, y.wrong)
		}
	}
	// As many as MaxItems are not too long.
	isTold(t, many(most), many(most), 2, 1, api.Range{})
}

// P19.3: Branch and Leaf that may not be.
func TestWrongBoundsOfTwins(t *testing.T) {
	lower, upper := twins(0, 1)
	for _, x := range [][2][]api.Entry{{nil, nil}, {list(lower), list(upper)}, {many(most), many(most)}} {
		for _, branch := range outside(2, 16) {
			for _, leaf := range append(outside(1, 32), 1, 16, 32) {
				isWrong(t, x[0], x[1], branch, leaf, api.ErrArg)
			}
		}
		for _, leaf := range outside(1, 32) {
			for branch := 2; branch <= 16; branch++ {
				isWrong(t, x[0], x[1], branch, leaf, api.ErrArg)
			}
		}
	}
}

// P19.4: each list's error, the first list's first, ahead of Branch, Leaf and refused.
func TestWrongMapsOfJudge(t *testing.T) {
	lower, upper := twins(0, 1)
	right := [4][]api.Entry{list(lower), list(upper), list(lower, upper), list(lower, upper)}
	for _, x := range append(noMaps(), tooLong()...) {
		for i := range right {
			l := right
			l[i] = x.l
			isNotJudged(t, l, config(2, 1), 0, x.wrong)
			isNotJudged(t, l, config(2, 1), -1, x.wrong)
			isNotJudged(t, l, config(0, 0), 1, x.wrong)
			isNotJudged(t, l, config(17, 33), lowInt, x.wrong)
		}
	}
	isJudged(t, many(most), many(most), many(most), many(most), config(2, 1), 0, met)
}

// P19.4: lists of which several are wrong, each in its own way, with each other in all orders.
func TestFirstWrongMapOfJudge(t *testing.T) {
	kinds := []wrongList{
		{nil, api.OK},
		{many(most), api.OK},
		{many(most + 1), api.ErrFull},
		{append(many(most+1), at("k", 1)), api.ErrOrder},
		{append(many(most+1), entry(tooLongKey, 1, 0, "")), api.ErrKey},
		{list(entry("a", 1, 0, tooLongValue)), api.ErrValue},
	}
	for n := range 6 * 6 * 6 * 6 {
		var l [4][]api.Entry
		want := api.ErrArg
		for i, rest := 0, n; i < 4; i, rest = i+1, rest/6 {
			l[i] = kinds[rest%6].l
			if want == api.ErrArg && kinds[rest%6].wrong != api.OK {
				want = kinds[rest%6].wrong
			}
		}
		isNotJudged(t, l, config(2, 1), -1, want)
	}
}

// P19.4: Branch, Leaf and refused that may not be.
func TestWrongBoundsOfJudge(t *testing.T) {
	lower, upper := twins(0, 1)
	for _, l := range [][4][]api.Entry{
		{},
		{list(lower), list(upper), list(lower), list(upper)},
		{list(at("a", 1)), nil, nil, nil},
	} {
		for _, branch := range outside(2, 16) {
			isNotJudged(t, l, config(branch, 1), 0, api.ErrArg)
			isNotJudged(t, l, config(branch, 32), 1, api.ErrArg)
		}
		for _, leaf := range outside(1, 32) {
			isNotJudged(t, l, config(2, leaf), 0, api.ErrArg)
			isNotJudged(t, l, config(16, leaf), 1, api.ErrArg)
		}
		for _, refused := range []int{-1, -2, -1000, lowInt, lowInt + 1} {
			isNotJudged(t, l, config(2, 1), refused, api.ErrArg)
			isNotJudged(t, l, config(1, 0), refused, api.ErrArg)
		}
	}
}

// P19.3, P19.4: lists that share their memory, some of which are no maps, are held against the second reading.
func TestListsThatShareTheirMemory(t *testing.T) {
	l := append(under(oddKeys(), 0), at("a", 1), at("b", 1))
	came := map[api.Errno]int{}
	for i := range l {
		for j := range l {
			a, b := l[:i], l[j:]
			r, is, e := ghost.Twins(a, b, 2, 1)
			if q, was, want := plainTwins(a, b, 2, 1); r != q || is != was || e != want {
				t.Fatalf("Twins(%s, %s): %s, %t, %d", short(a), short(b), quoted(r), is, e)
			}
			v, e := ghost.Judge(a, b, b, a, config(2, 1), 0)
			if w, want := plainJudge(a, b, b, a, config(2, 1), 0); v != w || e != want {
				t.Fatalf("Judge(%s, %s): %s, %d", short(a), short(b), quoted(v), e)
			}
			came[e]++
		}
	}
	if came[api.OK] == 0 || came[api.ErrOrder] == 0 {
		t.Errorf("errors: %v", came)
	}
}
