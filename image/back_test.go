package image_test

import (
	"math/rand/v2"
	"slices"
	"strings"
	"testing"

	"tideline/api"
)

// P10.3: what was put is loaded.
func TestPutThenLoad(t *testing.T) {
	for _, x := range samples() {
		s := x.store(t)
		again := load(t, string(put(t, s)))
		if again == s {
			t.Fatal("Load tells the store that was put")
		}
		x.is(t, again)
		x.is(t, s)
		alike(t, s, again)
	}
}

// P10.3: what was loaded is put, byte by byte; also of images that no store here was put to.
func TestLoadThenPut(t *testing.T) {
	for _, x := range samples() {
		b := x.image()
		if got := put(t, load(t, b)); string(got) != b {
			t.Fatalf("Put of Load(%s): %s", short(b), short(string(got)))
		}
	}
	b := sample{4, 1000, entriesOf(oddKeys())}.image()
	for at := range len(b) {
		for with := range 256 {
			changed := b[:at] + string([]byte{byte(with)}) + b[at+1:]
			if _, is := read(changed); !is {
				continue
			}
			if got := put(t, load(t, changed)); string(got) != changed {
				t.Fatalf("Put of Load(%q): %q", changed, got)
			}
		}
	}
}

// P10.3: there and back many times, with a change in between.
func TestThereAndBackAgain(t *testing.T) {
	x := sample{2, 0, nil}
	s := x.store(t)
	for i, key := range append(oddKeys(), numbered(100)...) {
		e := entry(key, i+1, 2, strings.Repeat("v", i%33))
		s = load(t, string(put(t, s)))
		if v, wrong := s.Put(key, e.Value); v != e.Version || wrong != api.OK {
			t.Fatalf("Put(%q): %v, %d, want %v", key, v, wrong, e.Version)
		}
		x.clock = i + 1
		x.l = append(x.l, e)
		slices.SortFunc(x.l, func(a, b api.Entry) int { return strings.Compare(a.Key, b.Key) })
		x.is(t, load(t, string(put(t, s))))
	}
}

// smallStores are all stores of some nodes, clocks, and entries of a few kinds, at most two each.
func smallStores() []sample {
	var kinds []api.Entry
	for _, key := range []string{"", "\x00", "a", "a\x00"} {
		for _, counter := range []int{1, 128} {
			kinds = append(kinds, dead(key, counter, 0), dead(key, counter, 1), entry(key, counter, 0, ""), entry(key, counter, 0, "\x00"), entry(key, counter, 1, "\x00\x01"))
		}
	}
	lists := [][]api.Entry{nil}
	for _, e := range kinds {
		lists = append(lists, []api.Entry{e})
		for _, f := range kinds {
			lists = append(lists, []api.Entry{e, f})
		}
	}
	var l []sample
	for _, entries := range lists {
		for _, clock := range []int{0, 1, 128, 129, 1 << 14} {
			for _, node := range []int{0, 1, 7} {
				if x := (sample{node, clock, entries}); x.mayBe() {
					l = append(l, x)
				}
			}
		}
	}
	return l
}

// P10.3: no image is the beginning of another one's, nor that of another store.
func TestNoBeginning(t *testing.T) {
	var images []string
	for _, x := range append(smallStores(), samples()...) {
		images = append(images, string(put(t, x.store(t))))
	}
	slices.Sort(images)
	images = slices.Compact(images)
	// Whatever begins with a text stands right behind it, where texts are sorted.
	for i := 1; i < len(images); i++ {
		if strings.HasPrefix(images[i], images[i-1]) {
			t.Fatalf("%q is the beginning of %q", images[i-1], images[i])
		}
	}
}

// P10.3: stores that are unlike in anything have unlike images, and like ones the same.
func TestOneImage(t *testing.T) {
	all := smallStores()
	images := map[string]bool{}
	for _, x := range all {
		b := string(put(t, x.store(t)))
		if images[b] {
			t.Fatalf("%v has another one's image, %q", x, b)
		}
		images[b] = true
		x.is(t, load(t, b))
	}
}

// P10.3: the image hangs on what is held, not on the order in which it came.
func TestOneImageInAnyOrder(t *testing.T) {
	rnd := rand.New(rand.NewPCG(10, 3))
	for _, keys := range [][]string{oddKeys(), numbered(most)} {
		want := sample{3, len(keys), entriesOf(keys)}
		for range 20 {
			l := slices.Clone(want.l)
			rnd.Shuffle(len(l), func(i, j int) { l[i], l[j] = l[j], l[i] })
			s := sample{3, 0, nil}.store(t)
			for _, e := range l {
				s.Take(e)
			}
			if b := put(t, s); string(b) != want.image() {
				t.Fatalf("%s, want %s", short(string(b)), short(want.image()))
			}
		}
	}
}
