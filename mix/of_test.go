package mix_test

import (
	"fmt"
	"math"
	"math/rand/v2"
	"strings"
	"testing"

	"tideline/api"
	"tideline/mix"
)

// P4.1: the texts were worked out by another program, by the words of the chapter.
func TestOf(t *testing.T) {
	for _, x := range []struct {
		key           string
		counter, node int
		want          string
	}{
		{"", 0, 0, "4cb0a81f32fe83a96e307e13264d225e"},
		{"a", 1, 0, "935aaef53b42241113804f825c758b96"},
		{"a", 1, 1, "319228aaac708ae8d632fdbfa1f852dc"},
		{"abcdefghi", 5, 2, "c534c15d59bcb7a7b5842f5e1f209ddd"},
		{strings.Repeat("\xff", 16), -1, -1, "5152406d81d5405eafae35653923b506"},

		{"", 300, 7, "40f534dd4ec6c754556aa3a38acf8ced"},
		{"a", 300, 7, "263fb4ed0dc15db01df75cc08a51bb94"},
		{"abcdefg", 300, 7, "1dc09858ff03e1cc0a53b1dd88b56d99"},
		{"abcdefgh", 300, 7, "3657c881480bb55d8bb3e2d661af799b"},
		{"abcdefghi", 300, 7, "ee42bfa79e901c308cceeb2d47fc9435"},
		{"abcdefghijklmno", 300, 7, "4ff07718a3f1b3a7d91a3bc8afd5889a"},
		{"abcdefghijklmnop", 300, 7, "7d82bae441afb30123c55a06f40cf745"},
		{"abcdefghijklmnopq", 300, 7, "5287d7748e31d695dd2d5e4bce74010d"},

		{"\x00", 1, 0, "5f651a81688654d6e09477661b528fa4"},
		{"\x00\x00", 1, 0, "2dd3373103292c86a38ba1d2d6deab72"},
		{"\xff", 1, 0, "f30f120d7139fdc2162521be7c75d0d9"},
		{"\x80", 1, 0, "58f6f4e0259868fdb616f31829ca4a10"},
		{strings.Repeat("\x00", 8), 1, 0, "92c617e9795f438696faa754ef0f679b"},
		{strings.Repeat("\x00", 9), 1, 0, "d4daa56105bf133a50e8347e819a4cf9"},
		{strings.Repeat("\xff", 7), 1, 0, "d7b984aa8b4fbe010797c08fc7b36444"},
		{strings.Repeat("\xff", 8), 1, 0, "7e7960a208ff423b48894a22c972dc29"},
		{strings.Repeat("\xff", 9), 1, 0, "8ef2df22b96151f1c08d357ef9a79d0c"},
		{"\xff\x00\xff\x00\xff\x00\xff\x00\x01", 1, 0, "56deed0a8e058719cab85a779b4de16b"},
		{strings.Repeat("k", 1000003), 1, 0, "9f130cd9d1a1b04edfd4e90c1d1354ca"},

		{"a", 0, 0, "9ecbb6bdda142af80d51c84ce0b391c6"},
		{"a", 0, -1, "c2fccf8b438d98d02ffb8975c5b33252"},
		{"a", 0, math.MinInt, "1ecbb6b9da142af88d51c84c60b391c6"},
		{"a", 0, math.MaxInt, "42fccf8f438d98d0affb897545b33252"},
		{"a", -1, 0, "f07eca84a3179ba8c7b22700dba13a2d"},
		{"a", -1, -1, "7149bbc0d59e6a20759b2ac2c98cdd46"},
		{"a", -1, math.MinInt, "707eca80a3179ba847b227005ba13a2d"},
		{"a", -1, math.MaxInt, "f149bbc4d59e6a20f59b2ac2498cdd46"},
		{"a", math.MinInt, 0, "1bf5a70df3e4a758213c3df44cde647e"},
		{"a", math.MinInt, -1, "45d2df3b7afd1d701c1113ce7659a8e9"},
		{"a", math.MinInt, math.MinInt, "9bf5a709f3e4a758a13c3df4ccde647e"},
		{"a", math.MinInt, math.MaxInt, "c5d2df3f7afd1d709c1113cef659a8e9"},
		{"a", math.MaxInt, 0, "6da8bad44da41908b3c7b1582fd4ac75"},
		{"a", math.MaxInt, -1, "f41fcb68ff2def408985a06ab59257ee"},
		{"a", math.MaxInt, math.MinInt, "eda8bad04da4190833c7b158afd4ac75"},
		{"a", math.MaxInt, math.MaxInt, "741fcb6cff2def400985a06a359257ee"},
	} {
		s := mix.Of(x.key, version(x.counter, x.node))
		if text := fmt.Sprintf("%016x%016x", s[0], s[1]); text != x.want {
			t.Errorf("Of(%.20q of %d bytes, {%d, %d}): %s, want %s", x.key, len(x.key), x.counter, x.node, text, x.want)
		}
	}
}

// P4.1
func TestOfByTheWords(t *testing.T) {
	for _, key := range anyKeys() {
		for _, counter := range anyNumbers() {
			for _, node := range []int{math.MinInt, -1, 0, 1, 7, 8, math.MaxInt} {
				v := version(counter, node)
				if s, want := mix.Of(key, v), sumOf(key, v); s != want {
					t.Fatalf("Of(%q, %v): %x, want %x", key, v, s, want)
				}
			}
		}
	}
	for _, node := range anyNumbers() {
		v := version(3, node)
		if s, want := mix.Of("k", v), sumOf("k", v); s != want {
			t.Errorf("Of(%q, %v): %x, want %x", "k", v, s, want)
		}
	}
}

// P4.1
func TestOfSomeBytes(t *testing.T) {
	rnd := rand.New(rand.NewPCG(4, 1))
	for range 5000 {
		key, v := someBytes(rnd, 40), version(int(rnd.Uint64()), int(rnd.Uint64()))
		if s, want := mix.Of(key, v), sumOf(key, v); s != want {
			t.Fatalf("Of(%q, %v): %x, want %x", key, v, s, want)
		}
	}
}

// P4.1: how many bytes a key has, each of them, where it stands, and both numbers count.
func TestOfUnlike(t *testing.T) {
	told := map[api.Sum]string{}
	ask := func(key string, v api.Version) {
		name := fmt.Sprintf("%q %v", key, v)
		s := mix.Of(key, v)
		if other, found := told[s]; found && other != name {
			t.Errorf("Of(%s) is that of %s", name, other)
		}
		told[s] = name
	}
	for _, key := range anyKeys() {
		ask(key, version(1, 0))
	}
	for i := range 24 {
		ask(strings.Repeat("a", i)+"b"+strings.Repeat("a", 23-i), version(1, 0))
	}
	for _, counter := range anyNumbers() {
		for _, node := range anyNumbers() {
			ask("a", version(counter, node))
		}
	}
}

// P4.1, R5
func TestOfAgain(t *testing.T) {
	first := mix.Of("abcdefghi", version(5, 2))
	mix.Of("other", version(1, 1))
	mix.All(anyEntries()...)
	if s := mix.Of("abcdefghi", version(5, 2)); s != first {
		t.Errorf("Of: %x, then %x", first, s)
	}
}
