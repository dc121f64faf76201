package bloom

import (
	"fmt"
	"hash/fnv"
	"math/big"
	"math/rand"
	"slices"
	"strings"
	"testing"
)

// A filter on paper: it says the chapter's words with numbers of any length, by other means than the package's own.

func number(digits string) *big.Int {
	n, ok := new(big.Int).SetString(digits, 10)
	if !ok {
		panic(digits)
	}
	return n
}

func paperHash(key string) *big.Int {
	word, modulus := number("14695981039346656037"), new(big.Int).Lsh(big.NewInt(1), 64)
	for _, b := range []byte(key) {
		word.Xor(word, big.NewInt(int64(b)))
		word.Mul(word, number("1099511628211"))
		word.Mod(word, modulus)
	}
	return word
}

func paperProbes(key string, m int) []int {
	half := new(big.Int).Lsh(big.NewInt(1), 32)
	b, a := new(big.Int).QuoRem(paperHash(key), half, new(big.Int))
	b.SetBit(b, 0, 1)
	var probes []int
	for range 4 {
		probes = append(probes, int(new(big.Int).Mod(a, big.NewInt(int64(m))).Int64()))
		a.Add(a, b)
	}
	return probes
}

func paperBuild(keys ...string) string {
	if len(keys) == 0 {
		return ""
	}
	size := (10*len(keys) + 7) / 8
	bits := new(big.Int)
	for _, key := range keys {
		for _, p := range paperProbes(key, 8*size) {
			bits.SetBit(bits, p, 1)
		}
	}
	filter := bits.FillBytes(make([]byte, size))
	slices.Reverse(filter)
	return string(filter)
}

func paperMay(filter, key string) bool {
	if filter == "" {
		return false
	}
	bytes := []byte(filter)
	slices.Reverse(bytes)
	bits := new(big.Int).SetBytes(bytes)
	return !slices.ContainsFunc(paperProbes(key, 8*len(filter)), func(p int) bool { return bits.Bit(p) == 0 })
}

func someKey(r *rand.Rand) string {
	switch r.Intn(5) {
	case 0:
		return fmt.Sprint("pax ", r.Intn(30))
	case 1:
		return strings.Repeat(string([]byte{byte(r.Intn(256))}), r.Intn(20))
	case 2:
		return strings.Repeat("l", 200+r.Intn(50))
	}
	key := make([]byte, r.Intn(12))
	for i := range key {
		key[i] = byte(r.Intn(256))
	}
	return string(key)
}

// someKeys: often with doubles, now and then none.
func someKeys(r *rand.Rand) []string {
	keys := make([]string, r.Intn(30))
	for i := range keys {
		keys[i] = someKey(r)
		if i > 0 && r.Intn(6) == 0 {
			keys[i] = keys[r.Intn(i)]
		}
	}
	return keys
}

// someFilter: bytes that no Build need have made, with few bits set or with many.
func someFilter(r *rand.Rand) string {
	filter := make([]byte, r.Intn(40))
	for i := range filter {
		filter[i] = byte(r.Intn(256))
		for range r.Intn(3) {
			filter[i] |= byte(r.Intn(256))
		}
	}
	return string(filter)
}

// P7.1: the hash is the one reckoned with long numbers, and the library's own of that kind.
func TestHashAgainstPaper(t *testing.T) {
	r := rand.New(rand.NewSource(71))
	keys := kinds()
	for range 500 {
		keys = append(keys, someKey(r))
	}
	for _, key := range keys {
		library := fnv.New64a()
		library.Write([]byte(key))
		if got := Hash(key); got != paperHash(key).Uint64() || got != library.Sum64() {
			t.Fatalf("Hash of %s: %d, not %s, %d", brief(key), got, paperHash(key), library.Sum64())
		}
	}
}

// P7.1: the filter's very bits.
func TestBuildAgainstPaper(t *testing.T) {
	r := rand.New(rand.NewSource(72))
	lists := [][]string{kinds(), numbered(999), numbered(1000)}
	for _, key := range kinds() {
		lists = append(lists, []string{key}, []string{key, key}, []string{"", key, "a"})
	}
	for range 500 {
		lists = append(lists, someKeys(r))
	}
	for _, keys := range lists {
		if got, want := Build(keys...), paperBuild(keys...); got != want {
			t.Fatalf("Build of %s: %x, not %x", brief(keys), got, want)
		}
	}
}

// P7.1: for any bytes, and keys that are in and that aren't.
func TestMayAgainstPaper(t *testing.T) {
	r := rand.New(rand.NewSource(73))
	said := map[bool]int{}
	for range 4000 {
		filter, keys := someFilter(r), []string{someKey(r)}
		if r.Intn(2) == 0 {
			keys = someKeys(r)
			filter = Build(keys...)
			keys = append(keys, someKey(r), someKey(r))
		}
		key := keys[r.Intn(len(keys))]
		got := May(filter, key)
		if got != paperMay(filter, key) {
			t.Fatalf("May of %x, %s: %v", filter, brief(key), got)
		}
		said[got]++
	}
	if said[true] < 500 || said[false] < 500 {
		t.Errorf("the rows are lopsided: %v", said)
	}
}

// P7.1: in long filters, where the modulus is beyond what any key's lower bits say.
func TestLongFilters(t *testing.T) {
	r := rand.New(rand.NewSource(74))
	for _, size := range []int{1 << 16, 1<<16 + 1, 1 << 20, 1<<20 - 1, 3_000_001} {
		filter := make([]byte, size)
		for range 30 {
			key := someKey(r)
			clear(filter)
			probes := paperProbes(key, 8*size)
			for _, p := range probes {
				if May(string(filter), key) {
					t.Fatalf("%d bytes have %s ahead of bit %d", size, brief(key), p)
				}
				filter[p/8] |= 1 << (p % 8)
			}
			if !May(string(filter), key) {
				t.Fatalf("%d bytes with the bits %v don't have %s", size, probes, brief(key))
			}
		}
	}
}

// P7.2: every key is in its filter, and the order isn't seen.
func TestEveryKeyIsIn(t *testing.T) {
	r := rand.New(rand.NewSource(75))
	lists := [][]string{kinds(), numbered(1), numbered(2), numbered(5000)}
	for range 1000 {
		lists = append(lists, someKeys(r))
	}
	for _, keys := range lists {
		filter := Build(keys...)
		for _, key := range keys {
			if !May(filter, key) {
				t.Fatalf("the filter of %s doesn't have %s", brief(keys), brief(key))
			}
		}
		other := slices.Clone(keys)
		r.Shuffle(len(other), func(i, j int) { other[i], other[j] = other[j], other[i] })
		if got := Build(other...); got != filter {
			t.Fatalf("%s: %x, in another order %x", brief(keys), filter, got)
		}
	}
}

// P7.2: all orders of a few keys.
func TestEveryOrder(t *testing.T) {
	keys := []string{"", "a", "a", "\x00", "long " + strings.Repeat("l", 300)}
	want := Build(keys...)
	var walk func(at int)
	walk = func(at int) {
		if at == len(keys) {
			if got := Build(keys...); got != want {
				t.Fatalf("%s: %x, not %x", brief(keys), got, want)
			}
			return
		}
		for i := at; i < len(keys); i++ {
			keys[at], keys[i] = keys[i], keys[at]
			walk(at + 1)
			keys[at], keys[i] = keys[i], keys[at]
		}
	}
	walk(0)
}

// wantNoFewer: each key that the one filter has the other one has too.
func wantNoFewer(t *testing.T, filter, more string, keys []string) {
	t.Helper()
	for _, key := range keys {
		if May(filter, key) && !May(more, key) {
			t.Fatalf("%x has %s, %x doesn't", filter, brief(key), more)
		}
	}
}

// P7.3: with any one bit set more.
func TestOneMoreBit(t *testing.T) {
	keys := append(kinds(), numbered(40)...)
	filters := []string{"\x00", "\x5a", "\xfe", Build(""), Build("a"), Build(numbered(4)...), Build(numbered(9)...), Build(kinds()[:16]...)}
	for _, filter := range filters {
		for bit := range 8 * len(filter) {
			more := []byte(filter)
			more[bit/8] |= 1 << (bit % 8)
			wantNoFewer(t, filter, string(more), keys)
		}
	}
}

// P7.3: bit by bit, until all are set.
func TestBitAfterBit(t *testing.T) {
	r := rand.New(rand.NewSource(76))
	keys := append(kinds(), numbered(100)...)
	for _, n := range []int{1, 3, 4, 10, 25} {
		filter := Build(numbered(n)...)
		for _, bit := range r.Perm(8 * len(filter)) {
			more := []byte(filter)
			more[bit/8] |= 1 << (bit % 8)
			wantNoFewer(t, filter, string(more), keys)
			filter = string(more)
		}
		for _, key := range keys {
			if !May(filter, key) {
				t.Fatalf("all bits of %d bytes are set, and %s is missing", len(filter), brief(key))
			}
		}
	}
}

// P7.3: with many bits set more at once, in filters that no Build need have made.
func TestManyMoreBits(t *testing.T) {
	r := rand.New(rand.NewSource(77))
	for range 1000 {
		filter := someFilter(r)
		more := []byte(filter)
		for i := range more {
			more[i] |= byte(r.Intn(256)) & byte(r.Intn(256))
		}
		keys := someKeys(r)
		wantNoFewer(t, filter, string(more), keys)
		wantNoFewer(t, Build(keys...), strings.Repeat("\xff", len(Build(keys...))), keys)
	}
}

// R4: the same calls give the same answers.
func TestSameRowSameAnswers(t *testing.T) {
	play := func() string {
		r := rand.New(rand.NewSource(78))
		var told strings.Builder
		for range 300 {
			keys := someKeys(r)
			filter := Build(keys...)
			fmt.Fprintf(&told, "%x %v %d\n", filter, May(filter, someKey(r)), Hash(someKey(r)))
		}
		return told.String()
	}
	if play() != play() {
		t.Error("other answers to the same calls")
	}
}
