package bloom

import (
	"encoding/hex"
	"fmt"
	"slices"
	"strings"
	"testing"
)

// brief: the beginning of a text or of a list, for a message.
func brief(thing any) string { return fmt.Sprintf("%.200q", fmt.Sprintf("%q", thing)) }

// everyByte: a key of all bytes from 0 to 255.
func everyByte() string {
	key := make([]byte, 256)
	for i := range key {
		key[i] = byte(i)
	}
	return string(key)
}

// kinds: the empty key, short ones, all single bytes, ends of other keys, long ones.
func kinds() []string {
	keys := []string{"", "ab", "ba", "abc", "\x00\x00", "\x00\xff", "\xff\x00", "\xff\xff", "Zürich", "pax 1", "pax 2", "pax 10", everyByte(), strings.Repeat("x", 1000), strings.Repeat("x", 1001), strings.Repeat("\x00", 5000)}
	for b := range 256 {
		keys = append(keys, string([]byte{byte(b)}))
	}
	return keys
}

// numbered: as many unlike keys.
func numbered(n int) []string {
	keys := make([]string, n)
	for i := range keys {
		keys[i] = fmt.Sprint("key ", i)
	}
	return keys
}

// P7.1: the chapter's examples.
func TestExamples(t *testing.T) {
	if got := Hash(""); got != 14695981039346656037 {
		t.Errorf("Hash of the empty key: %d", got)
	}
	if got := Hash("a"); got != 12638187200555641996 {
		t.Errorf("Hash of a: %d", got)
	}
	if got := Build(); got != "" {
		t.Errorf("Build without keys: %q", got)
	}
	if got := Build("a"); len(got) != 2 {
		t.Errorf("Build of one key: %d bytes", len(got))
	}
	if got := Build("a", "b", "c", "d"); len(got) != 5 {
		t.Errorf("Build of four keys: %d bytes", len(got))
	}
}

// P7.1: numbers that a program in another language gave.
func TestHash(t *testing.T) {
	for _, c := range []struct {
		key  string
		hash uint64
	}{
		{"b", 12638190499090526629},
		{"\x00", 12638153115695167455},
		{"\xff", 12638352127299873646},
		{"\x00\x00", 590684067820433389},
		{"\x00\xff", 590474061099445088},
		{"\xff\x00", 763824163880569834},
		{"ab", 620445648566982762},
		{"ba", 623241706636955660},
		{"foobar", 9625390261332436968},
		{"Zürich", 1078683963132214720},
		{everyByte(), 4774620800949106213},
		{strings.Repeat("x", 1000), 16261884560268382917},
		{strings.Repeat("\x00", 65536), 16934947671703429925},
		{strings.Repeat("\xff", 100000), 10687644417679324933},
	} {
		if got := Hash(c.key); got != c.hash {
			t.Errorf("Hash of %s: %d, not %d", brief(c.key), got, c.hash)
		}
	}
}

// P7.1: filters that a program in another language gave.
func TestBuild(t *testing.T) {
	for _, c := range []struct {
		keys   []string
		filter string
	}{
		{nil, ""},
		{[]string{}, ""},
		{[]string{""}, "3084"},
		{[]string{"a"}, "4812"},
		{[]string{"\x00"}, "4092"},
		{[]string{"\xff"}, "2049"},
		{[]string{"a", "a"}, "50000a"},
		{[]string{"a", "b", "c", "d"}, "001c2a17f0"},
		{[]string{"", "a", "ab", "abc", "x"}, "22329e401411c8"},
	} {
		if got := hex.EncodeToString([]byte(Build(c.keys...))); got != c.filter {
			t.Errorf("Build of %q: %s, not %s", c.keys, got, c.filter)
		}
	}
}

// P7.1: ten bits a key, with what is left over of a byte filled up; for every four keys just five bytes.
func TestSizes(t *testing.T) {
	sizes := []int{0, 2, 3, 4, 5, 7, 8, 9, 10, 12, 13, 14, 15}
	for n := range 1000 {
		size := n/4*5 + sizes[n%4]
		if n < len(sizes) && size != sizes[n] {
			t.Fatalf("%d keys: this test says %d and %d", n, size, sizes[n])
		}
		if got := Build(numbered(n)...); len(got) != size {
			t.Errorf("%d keys: %d bytes, not %d", n, len(got), size)
		}
		if got := Build(make([]string, n)...); len(got) != size {
			t.Errorf("%d times the empty key: %d bytes, not %d", n, len(got), size)
		}
	}
	if got := Build(numbered(100001)...); len(got) != 125002 {
		t.Errorf("100001 keys: %d bytes", len(got))
	}
}

// P7.1: a double makes the filter longer, but sets no bits of its own.
func TestDoubles(t *testing.T) {
	if got := Build("a", "b", "a", "a"); got == Build("a", "b") || len(got) != 5 {
		t.Errorf("with doubles: %x", got)
	}
	want := Build("a", "a", "a", "b")
	for _, keys := range [][]string{{"a", "b", "b", "b"}, {"b", "a", "a", "b"}} {
		if got := Build(keys...); got != want {
			t.Errorf("%q: %x, not %x", keys, got, want)
		}
	}
}

// P7.1: a filter without bytes has no key, not the empty one either.
func TestMayWithoutBytes(t *testing.T) {
	for _, key := range kinds() {
		if May("", key) || May(Build(), key) {
			t.Errorf("a filter without bytes has %s", brief(key))
		}
	}
}

// P7.1: with no bit set there is no key, with all bits set each, whatever the length.
func TestMayOfNoneAndAll(t *testing.T) {
	for _, size := range []int{1, 2, 3, 4, 5, 7, 8, 9, 64, 97, 1000, 65537} {
		none, all := strings.Repeat("\x00", size), strings.Repeat("\xff", size)
		for _, key := range kinds() {
			if May(none, key) {
				t.Errorf("%d bytes 0 have %s", size, brief(key))
			}
			if !May(all, key) {
				t.Errorf("%d bytes 255 don't have %s", size, brief(key))
			}
		}
	}
}

// P7.1: in one byte a key has four bits: with them alone it is there, without any one of them it isn't.
func TestMayOfOneByte(t *testing.T) {
	// The lower half of "a"'s hash is 0x8601ec8c and the upper one 0xaf63dc4c: the first bit is 4, and a step goes 5 on: 4, 1, 6, 3.
	for b := range 256 {
		filter := string([]byte{byte(b)})
		if got, want := May(filter, "a"), b&0b01011010 == 0b01011010; got != want {
			t.Errorf("byte %08b: %v", b, got)
		}
	}
}

// P7.1: a byte too many, or one too few, is another filter.
func TestMayCountsAllBytes(t *testing.T) {
	keys := numbered(100)
	filter := Build(keys...)
	for _, other := range []string{filter + "\x00", "\x00" + filter, filter[:len(filter)-1], filter[1:]} {
		missing := 0
		for _, key := range keys {
			if !May(other, key) {
				missing++
			}
		}
		if missing == 0 {
			t.Errorf("%d bytes in place of %d have all keys", len(other), len(filter))
		}
	}
}

// P7.1: of other keys a filter has only some.
func TestOtherKeys(t *testing.T) {
	keys := numbered(2000)
	filter := Build(keys[:1000]...)
	wrong := 0
	for _, key := range keys[1000:] {
		if May(filter, key) {
			wrong++
		}
	}
	if wrong > 50 {
		t.Errorf("the filter of 1000 keys has %d of 1000 others", wrong)
	}
}

// R5: the list that is handed in stays as it was, its spare memory too.
func TestListsHandedIn(t *testing.T) {
	spare := []string{"one", "", "three", "one", "spare", "more"}
	kept := slices.Clone(spare)
	filter := Build(spare[:4]...)
	if !slices.Equal(spare, kept) {
		t.Errorf("%q", spare)
	}
	spare[0] = "changed"
	if filter != Build("one", "", "three", "one") {
		t.Error("the filter hangs on the list that was handed in")
	}
}

// P7.1: nothing is kept: no earlier call is seen in a later one.
func TestNothingIsKept(t *testing.T) {
	first := Build("a", "b")
	Build("c", "d")
	May(first, "c")
	if Build("a", "b") != first || Build("b", "a") != first {
		t.Error("another filter of the same keys")
	}
}
