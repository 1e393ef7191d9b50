package merge_test

import (
	"slices"
	"testing"

	"tideline/api"
	"tideline/merge"
)

// versionsOf are entries under one key: older, then three of one version, then newer ones, by the Node alone and by the Counter.
func versionsOf(key string) (older, same, otherValue, sameDead, byNode, byCounter api.Entry) {
	return entry(key, 3, 7, longValue), entry(key, 4, 2, "x"), entry(key, 4, 2, "y"), dead(key, 4, 2), entry(key, 4, 3, ""), dead(key, 5, 0)
}

// P9.3: the examples, and of one version the first map's.
func TestMax(t *testing.T) {
	for _, key := range []string{"", "a", longKey, highest} {
		older, same, otherValue, sameDead, byNode, byCounter := versionsOf(key)
		for _, x := range []struct{ a, b, want api.Entry }{
			{same, older, same},
			{older, same, same},
			{same, otherValue, same},
			{otherValue, same, otherValue},
			{same, sameDead, same},
			{sameDead, same, sameDead},
			{same, byNode, byNode},
			{byNode, same, byNode},
			{byNode, byCounter, byCounter},
			{byCounter, byNode, byCounter},
		} {
			if got, e := merge.Max(list(x.a), list(x.b)); e != api.OK || !slices.Equal(got, list(x.want)) {
				t.Errorf("Max(%v, %v): %v, %d, want %v", x.a, x.b, got, e, x.want)
			}
		}
	}
	got, e := merge.Max(list(at("a", 1), at("c", 3)), list(at("a", 2), at("b", 1)))
	if want := list(at("a", 2), at("b", 1), at("c", 3)); e != api.OK || !slices.Equal(got, want) {
		t.Errorf("Max: %v, %d, want %v", got, e, want)
	}
}

// P9.3: of two lists of MaxItems entries with no key in common there are twice as many.
func TestMaxOfMoreThanAStoreHolds(t *testing.T) {
	keys := numbered(2 * most)
	a, b := entriesOf(eachOf(keys, 0, 2), 0), entriesOf(eachOf(keys, 1, 2), 0)
	got, e := merge.Max(a, b)
	if e != api.OK || !slices.Equal(keysOf(got), keys) {
		t.Errorf("Max: %d entries, %d", len(got), e)
	}
}

// P9.4: the examples; versions alone are asked.
func TestDiffer(t *testing.T) {
	older, same, otherValue, sameDead, byNode, byCounter := versionsOf("a")
	empty := entry("", 1, 0, "")
	for _, x := range []struct {
		a, b []api.Entry
		want []string
	}{
		{list(at("a", 1), at("c", 3)), list(at("a", 1), at("b", 1)), []string{"b", "c"}},
		{list(same), list(same), nil},
		{list(same), list(otherValue), nil},
		{list(same), list(sameDead), nil},
		{list(same), list(older), []string{"a"}},
		{list(same), list(byNode), []string{"a"}},
		{list(same), list(byCounter), []string{"a"}},
		{list(empty), nil, []string{""}},
		{nil, list(empty), []string{""}},
		{list(empty), list(dead("", 1, 0)), nil},
		{list(empty), list(entry("", 1, 1, "")), []string{""}},
		{list(empty, same), list(same), []string{""}},
		{nil, nil, nil},
	} {
		for _, turned := range []bool{false, true} {
			a, b := x.a, x.b
			if turned {
				a, b = b, a
			}
			if got, e := merge.Differ(a, b); e != api.OK || !slices.Equal(got, x.want) {
				t.Errorf("Differ(%s, %s): %q, %d, want %q", short(a), short(b), got, e, x.want)
			}
		}
	}
}

// P9.5, P9.6: the examples; of one version nothing is lacking, whatever the values.
func TestLacksAndAbove(t *testing.T) {
	older, same, otherValue, sameDead, byNode, byCounter := versionsOf("a")
	empty := dead("", 1, 0)
	for _, x := range []struct{ mine, theirs, lacking []api.Entry }{
		{list(at("a", 1), at("c", 3)), list(at("a", 2), at("b", 1)), list(at("c", 3))},
		{list(at("a", 2)), list(at("a", 2)), nil},
		{list(at("a", 2)), list(at("a", 1)), list(at("a", 2))},
		{list(at("a", 1)), list(at("a", 2)), nil},
		{nil, nil, nil},
		{nil, list(at("a", 1)), nil},
		{list(at("a", 1)), nil, list(at("a", 1))},
		{list(empty), nil, list(empty)},
		{list(empty), list(entry("", 1, 0, "x")), nil},
		{list(empty, at("a", 1)), list(at("a", 1)), list(empty)},
		{list(same), list(older), list(same)},
		{list(same), list(otherValue), nil},
		{list(otherValue), list(same), nil},
		{list(same), list(sameDead), nil},
		{list(sameDead), list(same), nil},
		{list(same), list(byNode), nil},
		{list(byNode), list(same), list(byNode)},
		{list(byCounter), list(byNode), list(byCounter)},
		{list(byNode), list(byCounter), nil},
	} {
		if got, e := merge.Lacks(x.mine, x.theirs); e != api.OK || !slices.Equal(got, x.lacking) {
			t.Errorf("Lacks(%s, %s): %v, %d, want %v", short(x.mine), short(x.theirs), got, e, x.lacking)
		}
		if is, e := merge.Above(x.theirs, x.mine); e != api.OK || is != (len(x.lacking) == 0) {
			t.Errorf("Above(%s, %s): %t, %d", short(x.theirs), short(x.mine), is, e)
		}
	}
}

// P9.6: one entry that is lacking is enough, wherever it stands.
func TestAboveButForOne(t *testing.T) {
	a := entriesOf(numbered(most+1), 0)
	for i := range a {
		b := slices.Clone(a)
		b[i].Version.Counter++
		if is, e := merge.Above(a, b); e != api.OK || is {
			t.Errorf("Above, an older one at %d: %t, %d", i, is, e)
		}
		if is, e := merge.Above(b, a); e != api.OK || !is {
			t.Errorf("Above, a newer one at %d: %t, %d", i, is, e)
		}
		fewer := slices.Delete(slices.Clone(a), i, i+1)
		if is, e := merge.Above(fewer, a); e != api.OK || is {
			t.Errorf("Above, none at %d: %t, %d", i, is, e)
		}
		if is, e := merge.Above(a, fewer); e != api.OK || !is {
			t.Errorf("Above, one more at %d: %t, %d", i, is, e)
		}
	}
}
