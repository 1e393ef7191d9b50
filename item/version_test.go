package item_test

import (
	"math"
	"testing"

	"tideline/api"
	"tideline/item"
)

// P3.1
func TestCheckVersion(t *testing.T) {
	for _, x := range []struct {
		v    api.Version
		want api.Errno
	}{
		{version(1, 0), api.OK},
		{version(300, 3), api.OK},
		{version(1, 7), api.OK},
		{version(greatest, 0), api.OK},
		{version(greatest, 7), api.OK},

		{api.Version{}, api.ErrVersion},
		{version(0, 7), api.ErrVersion},
		{version(-1, 0), api.ErrVersion},
		{version(math.MinInt, 0), api.ErrVersion},
		{version(greatest+1, 0), api.ErrVersion},
		{version(math.MaxInt, 0), api.ErrVersion},
		{version(1, -1), api.ErrVersion},
		{version(1, math.MinInt), api.ErrVersion},
		{version(1, 8), api.ErrVersion},
		{version(1, math.MaxInt), api.ErrVersion},
		{version(0, 8), api.ErrVersion},
		{version(-1, -1), api.ErrVersion},
	} {
		if e := item.CheckVersion(x.v); e != x.want {
			t.Errorf("CheckVersion(%v): %d, want %d", x.v, e, x.want)
		}
	}
	for _, v := range anyVersions() {
		if e := item.CheckVersion(v); (e == api.OK) != goodVersion(v) || e != api.OK && e != api.ErrVersion {
			t.Errorf("CheckVersion(%v): %d", v, e)
		}
	}
}

// P3.1
func TestCompare(t *testing.T) {
	for _, x := range []struct {
		a, b api.Version
		want int
	}{
		{version(3, 0), version(2, 7), 1},
		{version(2, 7), version(3, 0), -1},
		{version(3, 0), version(3, 1), -1},
		{version(3, 1), version(3, 0), 1},
		{version(3, 1), version(3, 1), 0},
		{api.Version{}, api.Version{}, 0},
		{version(1, 0), api.Version{}, 1},
		{version(math.MinInt, 0), version(math.MaxInt, 0), -1},
		{version(5, math.MaxInt), version(5, math.MinInt), 1},
		{version(math.MaxInt, math.MinInt), version(math.MinInt, math.MaxInt), 1},
	} {
		if c := item.Compare(x.a, x.b); c != x.want {
			t.Errorf("Compare(%v, %v): %d, want %d", x.a, x.b, c, x.want)
		}
	}
}

// P3.1
func TestCompareAllSamples(t *testing.T) {
	for i, a := range anyVersions() {
		for j, b := range anyVersions() {
			want := 0
			if i > j {
				want = 1
			} else if i < j {
				want = -1
			}
			if c := item.Compare(a, b); c != want {
				t.Errorf("Compare(%v, %v): %d, want %d", a, b, c, want)
			}
		}
	}
}

// P3.1
func TestNext(t *testing.T) {
	for _, x := range []struct {
		clock, node int
		want        api.Version
	}{
		{0, 0, version(1, 0)},
		{0, 2, version(1, 2)},
		{1, 7, version(2, 7)},
		{299, 1, version(300, 1)},
		{greatest - 2, 0, version(greatest-1, 0)},
		{greatest - 1, 7, version(greatest, 7)},
	} {
		if v, e := item.Next(x.clock, x.node); v != x.want || e != api.OK {
			t.Errorf("Next(%d, %d): %v, %d, want %v", x.clock, x.node, v, e, x.want)
		}
	}
}

// P3.1, R2
func TestNextWrong(t *testing.T) {
	for _, x := range []struct {
		clock, node int
		want        api.Errno
	}{
		{greatest, 0, api.ErrWorn},
		{greatest, 2, api.ErrWorn},
		{greatest, 7, api.ErrWorn},
		{-1, 0, api.ErrVersion},
		{math.MinInt, 0, api.ErrVersion},
		{greatest + 1, 0, api.ErrVersion},
		{math.MaxInt, 0, api.ErrVersion},
		{0, -1, api.ErrVersion},
		{0, math.MinInt, api.ErrVersion},
		{0, 8, api.ErrVersion},
		{0, math.MaxInt, api.ErrVersion},
		// Both are wrong: that of the version is told.
		{greatest, -1, api.ErrVersion},
		{greatest, 8, api.ErrVersion},
	} {
		if v, e := item.Next(x.clock, x.node); v != (api.Version{}) || e != x.want {
			t.Errorf("Next(%d, %d): %v, %d, want %d", x.clock, x.node, v, e, x.want)
		}
	}
}

// P3.1: what comes next may be, and is newer than all of the clock's Counter or a lesser one.
func TestNextIsNewer(t *testing.T) {
	for _, v := range anyVersions() {
		next, e := item.Next(v.Counter, v.Node)
		if e != api.OK {
			continue
		}
		if item.CheckVersion(next) != api.OK || item.Compare(next, version(v.Counter, 7)) != 1 {
			t.Errorf("Next(%d, %d): %v", v.Counter, v.Node, next)
		}
	}
}
