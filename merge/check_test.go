package merge_test

import (
	"math"
	"slices"
	"strconv"
	"testing"

	"tideline/api"
	"tideline/merge"
)

// fault makes the entry at i of a map of some entries one that Check refuses with want.
type fault struct {
	name string
	want api.Errno
	do   func(l []api.Entry, i int)
}

// itemFaults make entries that may not be, with one thing wrong, or several: item.Check tells the first of these.
func itemFaults() []fault {
	faults := []fault{
		{"a long key", api.ErrKey, func(l []api.Entry, i int) { l[i].Key = tooLongKey }},
		{"a long value", api.ErrValue, func(l []api.Entry, i int) { l[i].Value, l[i].Dead = tooLongValue, false }},
		{"a dead value", api.ErrDead, func(l []api.Entry, i int) { l[i].Value, l[i].Dead = "v", true }},
		{"the zero Entry", api.ErrVersion, func(l []api.Entry, i int) { l[i] = api.Entry{} }},
		{"a long key without a version", api.ErrKey, func(l []api.Entry, i int) { l[i] = api.Entry{Key: tooLongKey} }},
		{"a long value without a version", api.ErrVersion, func(l []api.Entry, i int) { l[i] = api.Entry{Key: l[i].Key, Value: tooLongValue} }},
		{"a long dead value", api.ErrValue, func(l []api.Entry, i int) { l[i].Value, l[i].Dead = tooLongValue, true }},
		{"a dead value under a low key", api.ErrDead, func(l []api.Entry, i int) { l[i].Key, l[i].Value, l[i].Dead = "", "v", true }},
		{"no version under the highest key", api.ErrVersion, func(l []api.Entry, i int) { l[i] = api.Entry{Key: highest} }},
	}
	for _, v := range []api.Version{version(0, 0), version(-1, 0), version(greatest+1, 0), version(1, -1), version(1, 8), version(math.MinInt, math.MinInt), version(math.MaxInt, math.MaxInt)} {
		faults = append(faults, fault{"version " + strconv.Itoa(v.Counter) + "." + strconv.Itoa(v.Node), api.ErrVersion, func(l []api.Entry, i int) { l[i].Version = v }})
	}
	return faults
}

// orderFaults make entries that may be, whose keys are not above those ahead of them; not at the first place.
func orderFaults() []fault {
	return []fault{
		{"the same key", api.ErrOrder, func(l []api.Entry, i int) { l[i].Key = l[i-1].Key }},
		{"the same entry", api.ErrOrder, func(l []api.Entry, i int) { l[i] = l[i-1] }},
		{"the same key, newer", api.ErrOrder, func(l []api.Entry, i int) { l[i] = entry(l[i-1].Key, greatest, 7, "") }},
		{"the empty key", api.ErrOrder, func(l []api.Entry, i int) { l[i].Key = "" }},
		{"a swap", api.ErrOrder, func(l []api.Entry, i int) { l[i], l[i-1] = l[i-1], l[i] }},
		{"a beginning of the key ahead", api.ErrOrder, func(l []api.Entry, i int) { l[i].Key = l[i-1].Key[:len(l[i-1].Key)/2] }},
	}
}

type wrongList struct {
	name string
	l    []api.Entry
	want api.Errno
}

// wrongLists are lists that are no maps: one thing is wrong in each, or two, of which the first one counts.
func wrongLists() []wrongList {
	good := entriesOf(oddKeys(), 0)
	middle, last := len(good)/2, len(good)-1
	var lists []wrongList
	for _, f := range itemFaults() {
		lists = append(lists, wrongList{f.name + " alone", oneWrong(f), f.want}, faulty(good, f, 0), faulty(good, f, middle), faulty(good, f, last))
	}
	for _, f := range orderFaults() {
		lists = append(lists, faulty(good, f, 1), faulty(good, f, middle), faulty(good, f, last))
	}
	all := append(itemFaults(), orderFaults()...)
	for _, later := range all {
		for _, f := range all {
			two := faulty(faulty(good, later, last).l, f, middle)
			two.name += ", and " + later.name + " behind it"
			lists = append(lists, two)
		}
	}
	return lists
}

func faulty(l []api.Entry, f fault, i int) wrongList {
	l = slices.Clone(l)
	f.do(l, i)
	return wrongList{f.name + " at " + strconv.Itoa(i), l, f.want}
}

func oneWrong(f fault) []api.Entry {
	l := list(at("a", 1))
	f.do(l, 0)
	return l
}

// P9.1: what may be: no entry, one, few, more than MaxItems; keys and values at their edges.
func TestCheckOfMaps(t *testing.T) {
	for _, l := range sampleMaps() {
		if e := merge.Check(l); e != api.OK {
			t.Errorf("Check(%s): %d", short(l), e)
		}
	}
	if e := merge.Check(entriesOf(numbered(60000), 0)); e != api.OK {
		t.Errorf("Check of 60000 entries: %d", e)
	}
}

// P9.1: keys must rise, versions and values need not.
func TestCheckAsksKeysAlone(t *testing.T) {
	falling := list(entry("a", 9, 7, "z"), entry("b", 9, 0, "y"), dead("c", 1, 0), entry("d", 1, 0, ""), entry("e", 1, 0, ""))
	if e := merge.Check(falling); e != api.OK {
		t.Errorf("Check(%s): %d", short(falling), e)
	}
}

// P9.1: the examples.
func TestCheckExamples(t *testing.T) {
	for _, x := range []struct {
		l    []api.Entry
		want api.Errno
	}{
		{list(at("a", 1), at("b", 2)), api.OK},
		{list(at("b", 2), at("a", 1)), api.ErrOrder},
		{list(at("a", 1), at("a", 2)), api.ErrOrder},
		{list(at("a", 2), at("a", 1)), api.ErrOrder},
		{list(at("", 1), at("", 1)), api.ErrOrder},
		{list(at("", 1), at("\x00", 1)), api.OK},
		{list(at("\x00", 1), at("", 1)), api.ErrOrder},
		{list(at("ab", 1), at("a", 1)), api.ErrOrder},
		{list(at("a", 1), at("ab", 1), at("b", 1)), api.OK},
		{list(at("a", 1), at("c", 1), at("b", 1)), api.ErrOrder},
		{list(at("\x7F", 1), at("\x80", 1)), api.OK},
		{list(at("\x80", 1), at("\x7F", 1)), api.ErrOrder},
		{list(api.Entry{}), api.ErrVersion},
	} {
		if e := merge.Check(x.l); e != x.want {
			t.Errorf("Check(%s): %d, want %d", short(x.l), e, x.want)
		}
	}
}

// P9.1: first, in the middle, and last; of two things that are wrong the first entry's, and of one entry what item.Check says ahead of the order.
func TestCheckOfWrongLists(t *testing.T) {
	for _, w := range wrongLists() {
		if e := merge.Check(w.l); e != w.want {
			t.Errorf("Check, %s: %d, want %d", w.name, e, w.want)
		}
	}
}

// P9.1: an entry that may not be, whose key does not rise either.
func TestCheckOfEntryAheadOfOrder(t *testing.T) {
	for _, x := range []struct {
		last api.Entry
		want api.Errno
	}{
		{api.Entry{Key: "a"}, api.ErrVersion},
		{entry("a", 1, 0, tooLongValue), api.ErrValue},
		{api.Entry{Key: "a", Version: version(1, 0), Value: "v", Dead: true}, api.ErrDead},
		{entry("a"+lowest, 1, 0, ""), api.ErrKey},
		{entry("a", 1, 0, ""), api.ErrOrder},
	} {
		if e := merge.Check(list(at("b", 1), x.last, api.Entry{})); e != x.want {
			t.Errorf("Check of %v behind another key: %d, want %d", x.last, e, x.want)
		}
	}
}

// P9.1: behind many that may be.
func TestCheckOfLastOfMany(t *testing.T) {
	for _, n := range []int{most - 1, most, most + 1, 2 * most, 5000} {
		l := entriesOf(numbered(n), 0)
		for _, f := range append(itemFaults(), orderFaults()...) {
			wrong := slices.Clone(l)
			f.do(wrong, n-1)
			if e := merge.Check(wrong); e != f.want {
				t.Errorf("Check of %d, %s: %d, want %d", n, f.name, e, f.want)
			}
		}
	}
}
