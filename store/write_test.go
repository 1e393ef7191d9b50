package store_test

import (
	"testing"

	"tideline/api"
	"tideline/store"
)

// P8.3 to P8.6: the document's examples.
func TestExamples(t *testing.T) {
	s := newStore(t, 3)
	for i, write := range []func() (api.Version, api.Errno){
		func() (api.Version, api.Errno) { return s.Put("a", "x") },
		func() (api.Version, api.Errno) { return s.Put("b", "") },
		func() (api.Version, api.Errno) { return s.Delete("a") },
		func() (api.Version, api.Errno) { return s.Delete("q") },
	} {
		if v, e := write(); v != version(i+1, 3) || e != api.OK {
			t.Errorf("write %d: %v, %d", i, v, e)
		}
	}
	same(t, s, &plain{3, 4, []api.Entry{dead("a", 3, 3), entry("b", 2, 3, ""), dead("q", 4, 3)}})
	for _, x := range []struct {
		e    api.Entry
		want bool
	}{{entry("b", 2, 3, "other"), false}, {entry("b", 2, 4, "new"), true}, {entry("c", 9, 0, ""), true}} {
		if is, e := s.Take(x.e); is != x.want || e != api.OK {
			t.Errorf("Take(%v): %t, %d", x.e, is, e)
		}
	}
	if v, e := s.Put("a", "y"); v != version(10, 3) || e != api.OK {
		t.Errorf("Put: %v, %d", v, e)
	}
	same(t, s, &plain{3, 10, []api.Entry{entry("a", 10, 3, "y"), entry("b", 2, 4, "new"), entry("c", 9, 0, ""), dead("q", 4, 3)}})
}

// P8.3: keys and values of all sorts, each key put twice, deleted twice, and put again.
func TestWrites(t *testing.T) {
	for _, node := range []int{0, 7} {
		s, p := newStore(t, node), &plain{node: node}
		for round, value := range []string{"", longValue, "\x00\xFF", "v"} {
			for _, key := range oddKeys() {
				samePut(t, s, p, key, value)
				if round > 0 {
					sameDelete(t, s, p, key)
				}
				if round > 1 {
					sameDelete(t, s, p, key)
				}
				if round > 2 {
					samePut(t, s, p, key, value+key)
				}
			}
			same(t, s, p)
		}
	}
}

func samePut(t *testing.T, s *store.Store, p *plain, key, value string) {
	t.Helper()
	want, wrong := p.put(key, value)
	if v, e := s.Put(key, value); v != want || e != wrong {
		t.Fatalf("Put(%q, %q): %v, %d, want %v, %d", key, value, v, e, want, wrong)
	}
	sameGet(t, s, p, key)
}

func sameDelete(t *testing.T, s *store.Store, p *plain, key string) {
	t.Helper()
	want, wrong := p.del(key)
	if v, e := s.Delete(key); v != want || e != wrong {
		t.Fatalf("Delete(%q): %v, %d, want %v, %d", key, v, e, want, wrong)
	}
	sameGet(t, s, p, key)
}

// P8.3: a key that was never held, then once more, then put.
func TestDeleteWhatIsNotThere(t *testing.T) {
	s := newStore(t, 6)
	for counter := 1; counter <= 3; counter++ {
		if v, e := s.Delete("q"); v != version(counter, 6) || e != api.OK {
			t.Errorf("Delete %d: %v, %d", counter, v, e)
		}
		same(t, s, &plain{6, counter, []api.Entry{dead("q", counter, 6)}})
	}
	if v, e := s.Put("q", "back"); v != version(4, 6) || e != api.OK {
		t.Errorf("Put: %v, %d", v, e)
	}
	same(t, s, &plain{6, 4, []api.Entry{entry("q", 4, 6, "back")}})
}

// P8.3: over an entry of another node, with the store's own node in the version.
func TestWriteOverTaken(t *testing.T) {
	s := newStore(t, 2)
	s.Take(entry("a", 40, 7, "theirs"))
	s.Take(dead("b", 30, 7))
	if v, e := s.Put("a", "mine"); v != version(41, 2) || e != api.OK {
		t.Errorf("Put: %v, %d", v, e)
	}
	if v, e := s.Delete("b"); v != version(42, 2) || e != api.OK {
		t.Errorf("Delete: %v, %d", v, e)
	}
	same(t, s, &plain{2, 42, []api.Entry{entry("a", 41, 2, "mine"), dead("b", 42, 2)}})
}

type write struct {
	name string
	call func(s *store.Store) (api.Version, api.Errno)
	want api.Errno
}

func put(key, value string, want api.Errno) write {
	return write{"Put(" + key + ", " + value + ")", func(s *store.Store) (api.Version, api.Errno) { return s.Put(key, value) }, want}
}

func del(key string, want api.Errno) write {
	return write{"Delete(" + key + ")", func(s *store.Store) (api.Version, api.Errno) { return s.Delete(key) }, want}
}

func refusedWrites(t *testing.T, s *store.Store, l ...write) {
	t.Helper()
	for _, x := range l {
		changesNothing(t, s, x.name, func() {
			if v, e := x.call(s); v != (api.Version{}) || e != x.want {
				t.Errorf("%s: %v, %d, want %d", x.name, v, e, x.want)
			}
		})
	}
}

// P8.3, R2: a key or a value that is too long, in an empty store and in one that holds something.
func TestWriteWrong(t *testing.T) {
	great := string(make([]byte, 100000))
	for _, s := range []*store.Store{newStore(t, 0), loaded(t, 7, 9, entry("a", 4, 1, "x"), dead("b", 5, 2))} {
		refusedWrites(t, s,
			put(tooLongKey, "", api.ErrKey), put(tooLongKey, longValue, api.ErrKey), put(great, "v", api.ErrKey),
			put("a", tooLongValue, api.ErrValue), put("new", tooLongValue, api.ErrValue), put("", great, api.ErrValue),
			put(tooLongKey, tooLongValue, api.ErrKey), put(great, great, api.ErrKey),
			del(tooLongKey, api.ErrKey), del(great, api.ErrKey),
		)
	}
}

// P8.3, R2: a full store; dead entries count.
func TestWriteFull(t *testing.T) {
	s, p := newStore(t, 4), &plain{node: 4}
	for i, key := range numbered(most) {
		if i%2 == 0 {
			samePut(t, s, p, key, "v")
		} else {
			sameDelete(t, s, p, key)
		}
	}
	refusedWrites(t, s,
		put("new", "", api.ErrFull), put("", longValue, api.ErrFull), put(highest, "v", api.ErrFull), del("new", api.ErrFull), del("", api.ErrFull),
		put(tooLongKey, "", api.ErrKey), put("new", tooLongValue, api.ErrValue), put(tooLongKey, tooLongValue, api.ErrKey), del(tooLongKey, api.ErrKey),
		put(numbered(1)[0], tooLongValue, api.ErrValue),
	)
	for _, key := range numbered(most) {
		samePut(t, s, p, key, "again")
		sameDelete(t, s, p, key)
	}
	refusedWrites(t, s, put("new", "", api.ErrFull), del("new", api.ErrFull))
	same(t, s, p)
}

// P8.3: a store is full with MaxItems keys, not with one less.
func TestWriteLastKey(t *testing.T) {
	for _, last := range []func(s *store.Store) (api.Version, api.Errno){
		func(s *store.Store) (api.Version, api.Errno) { return s.Put("last", "v") },
		func(s *store.Store) (api.Version, api.Errno) { return s.Delete("last") },
	} {
		s := loaded(t, 0, 1000, entriesOf(numbered(most-1))...)
		if v, e := last(s); v != version(1001, 0) || e != api.OK || s.Len() != most {
			t.Errorf("the last key: %v, %d, Len %d", v, e, s.Len())
		}
		refusedWrites(t, s, put("new", "", api.ErrFull), del("new", api.ErrFull))
	}
}

// P8.3, R2: a clock at its end, alone and with what is named ahead of it.
func TestWriteWorn(t *testing.T) {
	s := loaded(t, 1, greatest, entry("a", 4, 1, "x"), dead("b", greatest, 2))
	refusedWrites(t, s,
		put("a", "y", api.ErrWorn), put("b", "", api.ErrWorn), put("new", "", api.ErrWorn), del("a", api.ErrWorn), del("b", api.ErrWorn), del("new", api.ErrWorn),
		put(tooLongKey, "", api.ErrKey), put("a", tooLongValue, api.ErrValue), put(tooLongKey, tooLongValue, api.ErrKey), del(tooLongKey, api.ErrKey),
	)
	s = loaded(t, 1, greatest, entriesOf(numbered(most))...)
	held := numbered(most)[77]
	refusedWrites(t, s,
		put("new", "", api.ErrFull), del("new", api.ErrFull), put(held, "", api.ErrWorn), del(held, api.ErrWorn),
		put("new", tooLongValue, api.ErrValue), put(held, tooLongValue, api.ErrValue), put(tooLongKey, "", api.ErrKey), del(tooLongKey, api.ErrKey),
	)
}

// P8.3: the last Counter is still written, by Put and by Delete.
func TestWriteLastCounter(t *testing.T) {
	for _, x := range []write{put("a", "y", api.OK), del("a", api.OK), put("new", "", api.OK), del("new", api.OK)} {
		s := loaded(t, 7, greatest-1, entry("a", 4, 1, "x"))
		if v, e := x.call(s); v != version(greatest, 7) || e != api.OK || s.Clock() != greatest {
			t.Errorf("%s: %v, %d, clock %d", x.name, v, e, s.Clock())
		}
		refusedWrites(t, s, put("a", "z", api.ErrWorn), del("a", api.ErrWorn))
	}
}
