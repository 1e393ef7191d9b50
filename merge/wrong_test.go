package merge_test

import (
	"testing"

	"tideline/api"
	"tideline/merge"
)

// refused holds against each call of two lists that it answers want, and nothing beside it.
func refused(t *testing.T, name string, a, b []api.Entry, want api.Errno) {
	t.Helper()
	if l, e := merge.Max(a, b); e != want || len(l) != 0 {
		t.Errorf("Max, %s: %v, %d, want %d", name, l, e, want)
	}
	if l, e := merge.Differ(a, b); e != want || len(l) != 0 {
		t.Errorf("Differ, %s: %q, %d, want %d", name, l, e, want)
	}
	if l, e := merge.Lacks(a, b); e != want || len(l) != 0 {
		t.Errorf("Lacks, %s: %v, %d, want %d", name, l, e, want)
	}
	if is, e := merge.Above(a, b); e != want || is {
		t.Errorf("Above, %s: %t, %d, want %d", name, is, e, want)
	}
}

// P9.3 to P9.6, R2: Check's error of either list, whatever the other one is.
func TestOneWrongList(t *testing.T) {
	good := [][]api.Entry{nil, list(at("a", 1)), entriesOf(oddKeys(), 0), entriesOf(oddKeys(), 50), entriesOf(numbered(most+1), 0)}
	for _, w := range wrongLists() {
		for _, g := range good {
			refused(t, w.name+", the first list", w.l, g, w.want)
			refused(t, w.name+", the second list", g, w.l, w.want)
		}
	}
}

// P9.3 to P9.6, R2: of two wrong lists the first one's error.
func TestTwoWrongLists(t *testing.T) {
	lists := wrongLists()
	for _, w := range lists {
		for _, x := range lists {
			refused(t, w.name+"; "+x.name, w.l, x.l, w.want)
		}
		if t.Failed() {
			return
		}
	}
}
