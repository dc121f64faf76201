package table

import (
	"crypto/sha256"
	"encoding/hex"
	"fmt"
	"math"
	"runtime"
	"slices"
	"strconv"
	"strings"
	"testing"
	"unsafe"

	"tarmac/api"
)

// live: a version with a value.
func live(key string, seq int, value string) api.Entry {
	return api.Entry{Key: key, Seq: seq, Value: value}
}

// gone: a dead version.
func gone(key string, seq int) api.Entry { return api.Entry{Key: key, Seq: seq, Dead: true} }

// brief: the beginning of a thing, for a message.
func brief(thing any) string {
	text := fmt.Sprintf("%+q", fmt.Sprint(thing))
	return text[:min(len(text), 300)]
}

// bytes: those of a text of hex digits, with spaces and bars between them.
func bytes(digits string) string {
	b, err := hex.DecodeString(strings.NewReplacer(" ", "", "|", "", "\n", "", "\t", "").Replace(digits))
	if err != nil {
		panic(err)
	}
	return string(b)
}

// opened: the list's table.
func opened(t *testing.T, list []api.Entry) *Table {
	t.Helper()
	text, err := Build(list...)
	if err != api.OK {
		t.Fatalf("Build of %s: %d", brief(list), err)
	}
	x, err := Open(text)
	if err != api.OK {
		t.Fatalf("Open of the table of %s: %d", brief(list), err)
	}
	return x
}

// wantTable asks for the list's text, and for all that its table says, as they are on paper. It answers the text.
func wantTable(t *testing.T, list []api.Entry) string {
	t.Helper()
	text, errno := paperBuild(list)
	if got, err := Build(list...); err != errno || got != text {
		t.Errorf("Build of %s: %d, %s, not %s", brief(list), err, brief(hex.EncodeToString([]byte(got))), brief(hex.EncodeToString([]byte(text))))
	}
	isTable(t, opened(t, list), list)
	return text
}

// refusedList asks for the error, and for nothing beside it.
func refusedList(t *testing.T, list []api.Entry, errno api.Errno) {
	t.Helper()
	if got, err := Build(list...); err != errno || got != "" {
		t.Errorf("Build of %s: %d, %s, not %d", brief(list), err, brief(got), errno)
	}
}

// refusedText asks for ErrTable, and for nothing beside it.
func refusedText(t *testing.T, text, why string) {
	t.Helper()
	if x, err := Open(text); err != api.ErrTable || x != nil {
		t.Errorf("%s: Open of %s: %d, %t", why, brief(hex.EncodeToString([]byte(text))), err, x != nil)
	}
}

// nine: those of the chapter's example.
func nine() []api.Entry {
	var list []api.Entry
	for i := range 9 {
		list = append(list, live(string(rune('a'+i)), i, "v"))
	}
	return list
}

// over: the empty key, a key in two blocks, dead ones, empty values, Seqs at both ends.
func over() []api.Entry {
	return []api.Entry{
		live("", math.MaxInt, ""), gone("", 0), live("", -1, "y"), gone("", math.MinInt),
		live("k", 3, "c"), live("kk", 9, ""), gone("kk", 8), live("kk", 7, "seven"),
		gone("kk", 6), live("kk", -5, ""), live("l\x00", 2, "\x00\xff"), gone("\xff", 1),
	}
}

// P9.1, P9.2: the chapter's examples.
func TestExamples(t *testing.T) {
	text, err := Build()
	if err != api.OK || text != paperFrames([]string{"\x00", "", bytes("54 52 4d 31 00 00")}) {
		t.Errorf("Build of nothing: %d, %x", err, text)
	}
	if x := opened(t, nine()); x.Blocks() != 2 {
		t.Errorf("nine versions in %d blocks", x.Blocks())
	}
	text, _ = Build(nine()...)
	refusedText(t, text[:len(text)-1], "without its last byte")
	refusedText(t, text+"x", "with a byte behind it")
	payloads := paperPayloads(paperChunks(nine()))
	filter := []byte(payloads[3])
	filter[5] ^= 8
	payloads[3] = string(filter)
	refusedText(t, paperFrames(payloads), "another bit")
}

// P9.1: bytes that a program in another language gave: of each frame its length, its sum, its payload.
func TestBytes(t *testing.T) {
	for _, c := range []struct {
		list []api.Entry
		text string
	}{
		{nil, `00000001 df39c65c 00 | 00000000 2144df1c | 00000006 19418441 54524d310000`},
		{[]api.Entry{live("a", 1, "x")}, `
			00000008 8e65e975 0100016102000178
			00000004 553a2e1d 01016100
			00000002 795fc188 4812
			00000006 2484a686 54524d311001`},
		{[]api.Entry{gone("", 0)}, `
			00000005 fca39c3b 0100000001
			00000003 8e1b1aa7 010000
			00000002 87d50407 3084
			00000006 dbe8ca9a 54524d310d01`},
		{nine(), `
			00000039 1fc3b8fa 08 00016100000176 00016202000176 00016304000176 00016406000176 00016508000176 0001660a000176 0001670c000176 0001680e000176
			00000008 a3bd10a7 01 00016910000176
			00000007 20e58d2a 02 016800 016941
			0000000c ff181aec d020088221288e8451100642
			00000006 c33d50f0 54524d31 51 09`},
		{over(), `
			00000041 47bc139b 080000feffffffffffffffff010000000000010000010001790000ffffffffffffffffff010100016b0600016301016b1200000200100102000e0005736576656e
			0000001a e7a957fc 0400026b6b0c01020009000000026c0004000200ff0001ff0201
			00000008 0480a597 02 026b6b00 01ff49
			00000007 3d6f6a1d 082350841502c4
			00000006 96fe7a06 54524d31 6b 0c`},
	} {
		if got, err := Build(c.list...); err != api.OK || got != bytes(c.text) {
			t.Errorf("Build of %s: %d, %x", brief(c.list), err, got)
		}
		wantTable(t, c.list)
	}
}

// many: three versions a key, dead ones among them.
func many(n int) []api.Entry {
	var list []api.Entry
	for i := range n {
		version := live("key "+strconv.Itoa(10000+i/3), 5-i%3, strings.Repeat("v", i%7))
		if i%5 == 0 {
			version = gone(version.Key, version.Seq)
		}
		list = append(list, version)
	}
	return list
}

// P9.1, P9.2: about the borders of blocks, and many: with as many bytes, and the digest of them, as a program in another language gave.
func TestNumbersOfVersions(t *testing.T) {
	for _, c := range []struct {
		n, blocks, size int
		digest          string
	}{
		{0, 0, 31, "216c99edf8f59f2bd0069bba77fccd2eb48866d5e52cbc366faaf2c099c5af21"},
		{7, 1, 115, "391f04e6ae2404c76072b39e988f5f6a9f61207a33948a6d66119492fe01b7ac"},
		{8, 1, 120, "8eab484998465be595e5c66525d83bf1d06c5219a47fe2a90a1df228b0619f32"},
		{9, 2, 155, "013ddaad7f5257e9c7a99133ea0be78f1af1401f542de1cf19dd1866a04dce6c"},
		{15, 2, 207, "d9404b0d7fe6dcffc9e98bc2af6d2662a9031de4e68d197eed08ec916526c825"},
		{16, 2, 213, "cf54ef5958094cdd5c73283887b0a3a55aa59cbd843a910868b81d1408b450d2"},
		{17, 3, 250, "1a88b5535c5aec2195f335033183f100748beeb797b17bcc3e4dacb89f8363c2"},
		{100, 13, 1209, "1334cabcb48ce1423e25e421eef91df9e82043a248c1787bd339fcee79a487f9"},
		{1000, 125, 11718, "63cfbdd4fffc65b72ceadedbb8b0a3e15d62b742ee128b82141a23d684c173b2"},
		{5000, 625, 58867, "4c1494730c3fbce6e57804652d2ca6d7dd5cfc1a66e9a167c5aed7b696c1f9ae"},
	} {
		list := many(c.n)
		text, err := Build(list...)
		if got := fmt.Sprintf("%x", sha256.Sum256([]byte(text))); err != api.OK || len(text) != c.size || got != c.digest {
			t.Errorf("Build of %d: %d, %d bytes, digest %s", c.n, err, len(text), got)
		}
		x, err := Open(text)
		if err != api.OK || x.Len() != c.n || x.Blocks() != c.blocks || !slices.Equal(x.All(), list) {
			t.Errorf("Open of %d: %d", c.n, err)
		}
		if c.n <= 100 {
			wantTable(t, list)
		}
	}
	for n := range 50 {
		wantTable(t, many(n))
	}
}

// P9.1: a table without versions.
func TestTableOfNothing(t *testing.T) {
	for _, list := range [][]api.Entry{nil, {}} {
		x := opened(t, list)
		if x.Len() != 0 || x.Blocks() != 0 || len(x.All()) != 0 || len(x.From("")) != 0 || x.May("") || x.May("a") {
			t.Errorf("of nothing: %d, %d, %s, %s", x.Len(), x.Blocks(), brief(x.All()), brief(x.From("")))
		}
		first, one := x.First()
		last, other := x.Last()
		version, found := x.Get("", math.MaxInt)
		if first != "" || last != "" || version != (api.Entry{}) || one || other || found {
			t.Errorf("of nothing: %q %t, %q %t, %s %t", first, one, last, other, brief(version), found)
		}
	}
}

// P9.1: the empty key is a key: First and Last tell it, beside true.
func TestEmptyKey(t *testing.T) {
	x := opened(t, []api.Entry{gone("", 1)})
	first, one := x.First()
	last, other := x.Last()
	if first != "" || last != "" || !one || !other || !x.May("") {
		t.Errorf("%q %t, %q %t, %t", first, one, last, other, x.May(""))
	}
	if version, ok := x.Get("", 1); !ok || version != gone("", 1) {
		t.Errorf("Get: %s, %t", brief(version), ok)
	}
}

// P9.1: Get of a key whose versions lie in two blocks, of its neighbours, and of keys that aren't there.
func TestGet(t *testing.T) {
	x := opened(t, over())
	for _, c := range []struct {
		key  string
		at   int
		want int // which version of the list; none: -1
	}{
		{"kk", math.MaxInt, 5}, {"kk", 10, 5}, {"kk", 9, 5},
		{"kk", 8, 6}, {"kk", 7, 7}, {"kk", 6, 8}, {"kk", 5, 9}, {"kk", 0, 9}, {"kk", -4, 9}, {"kk", -5, 9},
		{"kk", -6, -1}, {"kk", math.MinInt, -1},
		{"", math.MaxInt, 0}, {"", math.MaxInt - 1, 1}, {"", 0, 1}, {"", -1, 2}, {"", -2, 3}, {"", math.MinInt, 3},
		{"k", 3, 4}, {"k", 2, -1}, {"k", 9, 4},
		{"l\x00", 2, 10}, {"l", 2, -1}, {"l\x00\x00", 9, -1}, {"l\x01", 9, -1},
		{"\xff", 1, 11}, {"\xff", 0, -1}, {"\xff\x00", 9, -1}, {"\xfe", 9, -1},
		{"\x00", 9, -1}, {"j", 9, -1}, {"kj", 9, -1}, {"kkk", 9, -1}, {"K", 9, -1},
	} {
		version, ok := x.Get(c.key, c.at)
		if c.want < 0 && (ok || version != (api.Entry{})) || c.want >= 0 && (!ok || version != over()[c.want]) {
			t.Errorf("Get(%q, %d): %s, %t", c.key, c.at, brief(version), ok)
		}
	}
}

// P9.1: From ahead of the first key, at a key, between two, behind the last one; of a key in two blocks it tells all versions.
func TestFrom(t *testing.T) {
	for _, c := range []struct {
		key  string
		from int
	}{
		{"", 0}, {"\x00", 4}, {"j", 4}, {"k", 4}, {"k\x00", 5}, {"kk", 5}, {"kk\x00", 10}, {"l", 10}, {"l\x00", 10},
		{"l\x00\x00", 11}, {"l\x01", 11}, {"z", 11}, {"\xff", 11}, {"\xff\x00", 12}, {"\xff\xff", 12},
	} {
		if got := opened(t, over()).From(c.key); !slices.Equal(got, over()[c.from:]) {
			t.Errorf("From(%q): %s", c.key, brief(got))
		}
	}
	if got := opened(t, nine()).From(""); !slices.Equal(got, nine()) {
		t.Errorf("From ahead of all: %s", brief(got))
	}
}

// P9.1, P9.2: versions of one key alone fill several blocks; the filter has the key once.
func TestOneKey(t *testing.T) {
	var list []api.Entry
	for i := range 30 {
		list = append(list, live("key", 10-i, strconv.Itoa(i)))
	}
	wantTable(t, list)
	if payloads := paperPayloads(paperChunks(list)); len(payloads) != 7 || len(payloads[5]) != 2 {
		t.Errorf("on paper: %s", brief(payloads))
	}
}

// pairs that don't rise strictly, all above "f" and below "x".
func pairs() [][2]api.Entry {
	return [][2]api.Entry{
		{live("m", 1, "x"), live("m", 1, "x")},
		{live("m", 1, "x"), live("m", 1, "y")}, // equal in the order, whatever their values
		{live("m", 1, "x"), gone("m", 1)},
		{gone("m", 1), gone("m", 1)},
		{live("m", 0, ""), live("m", 0, "")},
		{live("mn", 1, ""), live("mm", 1, "")},
		{live("mn", 9, ""), live("mm", 1, "")}, // Seqs count only of one key
		{live("mn", 1, ""), live("mm", 9, "")},
		{live("mm", 1, ""), live("m", 1, "")},
		{live("m\x80", 1, ""), live("m\x7f", 1, "")},
		{live("m", 1, ""), live("m", 2, "")},
		{gone("m", -1), gone("m", 0)},
		{live("m", math.MinInt, ""), live("m", math.MaxInt, "")},
		{live("m", math.MaxInt-1, ""), live("m", math.MaxInt, "")},
		{live("m", math.MinInt, ""), live("m", math.MinInt, "")},
	}
}

// amid: the versions with so many others ahead of them, and so many behind them.
func amid(ahead, behind int, versions ...api.Entry) []api.Entry {
	var list []api.Entry
	for i := range ahead {
		list = append(list, live("e"+strconv.Itoa(100+i), i, "v"))
	}
	list = append(list, versions...)
	for i := range behind {
		list = append(list, live("y"+strconv.Itoa(100+i), i, "v"))
	}
	return list
}

// P9.1: ErrOrder for each pair that doesn't rise strictly, at the list's beginning, within a block, over the border of two, at its end.
func TestBuildOfWrongOrder(t *testing.T) {
	for _, pair := range pairs() {
		for ahead := range 18 {
			for _, behind := range []int{0, 1, 7, 8} {
				refusedList(t, amid(ahead, behind, pair[:]...), api.ErrOrder)
			}
		}
	}
	for ahead := range 18 {
		// The empty key can only stand at the beginning.
		refusedList(t, amid(ahead+1, 3, gone("", 1)), api.ErrOrder)
		// Far apart, so that neither block is wrong by itself.
		list := amid(ahead+9, 0)
		refusedList(t, slices.Concat(list, list), api.ErrOrder)
	}
	refusedList(t, []api.Entry{gone("", 1), gone("", 1)}, api.ErrOrder)
	refusedList(t, []api.Entry{gone("", 1), gone("", 2)}, api.ErrOrder)
}

// P9.1: ErrOrder for a dead version with a value, wherever it stands; with none it is well.
func TestBuildOfDeadWithValue(t *testing.T) {
	for _, value := range []string{"x", "\x00", strings.Repeat("v", 200)} {
		for ahead := range 18 {
			for _, behind := range []int{0, 1, 7, 8} {
				refusedList(t, amid(ahead, behind, api.Entry{Key: "m", Seq: 1, Dead: true, Value: value}), api.ErrOrder)
			}
		}
		refusedList(t, []api.Entry{{Dead: true, Value: value}}, api.ErrOrder)
	}
	for ahead := range 18 {
		wantTable(t, amid(ahead, 3, gone("m", 1)))
	}
}

// fit: the greatest value of a version with the key m and Seq 1, alone in a block, that a frame holds.
const fit = 65536 - len("\x01\x00\x01m\x02\x00") - 3

// P9.1: ErrLong for a block above MaxFrame bytes, wherever it stands, and not for one that has just as many.
func TestLongBlock(t *testing.T) {
	long := strings.Repeat("v", fit+1)
	for _, c := range []struct{ ahead, behind int }{{0, 0}, {8, 0}, {16, 0}} {
		list := amid(c.ahead, c.behind, live("m", 1, long[:fit]))
		text := wantTable(t, list)
		if !strings.Contains(text, "\x00\x01\x00\x00") {
			t.Errorf("no frame has just MaxFrame bytes")
		}
		refusedList(t, amid(c.ahead, c.behind, live("m", 1, long)), api.ErrLong)
	}
	// Amid a block, and in the first of several.
	for _, c := range []struct{ ahead, behind int }{{0, 1}, {0, 20}, {3, 4}, {3, 20}, {7, 20}, {12, 20}} {
		refusedList(t, amid(c.ahead, c.behind, live("m", 1, long)), api.ErrLong)
		wantTable(t, amid(c.ahead, c.behind, live("m", 1, long[:fit-100])))
	}
	// By several versions together, none of them too long.
	refusedList(t, amid(0, 0, live("m", 2, long[:fit/2]), live("m", 1, long[:fit/2+10])), api.ErrLong)
	wantTable(t, amid(7, 0, live("m", 2, long[:fit/2]), live("m", 1, long[:fit/2+10]))) // in two blocks
	// By the key: its block is too long ahead of the index.
	key := strings.Repeat("k", 65530)
	refusedList(t, []api.Entry{gone(key, 1)}, api.ErrLong)
	wantTable(t, []api.Entry{gone(key[1:], 1)})
}

// P9.1: ErrLong for an index above MaxFrame bytes, though no block is, and not for one that has just as many.
func TestLongIndex(t *testing.T) {
	// The number of blocks, two lengths of three bytes, a place of one byte and one of three are not the keys'.
	const keys = 65536 - 1 - 3 - 3 - 1 - 3
	for _, c := range []struct{ more, index int }{{0, 65536}, {1, 65537}, {-1, 65535}} {
		list := append(amid(7, 0, live(strings.Repeat("f", keys/2), 1, "v")), live(strings.Repeat("g", keys-keys/2+c.more), 1, "v"))
		payloads := paperPayloads(paperChunks(list))
		if len(payloads[2]) != c.index || len(payloads[0]) > 40000 || len(payloads[1]) > 40000 {
			t.Fatalf("an index of %d bytes: this test tries something else", len(payloads[2]))
		}
		if c.index > 65536 {
			refusedList(t, list, api.ErrLong)
		} else {
			wantTable(t, list)
		}
	}
}

// short: versions of so many keys of two bytes each.
func short(n int) []api.Entry {
	var list []api.Entry
	for i := range n {
		list = append(list, gone(string([]byte{byte(i >> 8), byte(i)}), 1))
	}
	return list
}

// P9.1: ErrLong for a filter above MaxFrame bytes. 52428 keys have 65535, one more has 65537; versions of a key that is there count nothing.
func TestLongFilter(t *testing.T) {
	list := short(52429)
	refusedList(t, list, api.ErrLong)
	text, err := Build(list[:52428]...)
	if want, _ := paperBuild(list[:52428]); err != api.OK || text != want {
		t.Errorf("Build of 52428 keys: %d", err)
	}
	if x, err := Open(text); err != api.OK || x.Len() != 52428 || !slices.Equal(x.All(), list[:52428]) {
		t.Errorf("Open of 52428 keys: %d", err)
	}
	list = append(list[:52428], gone(list[52427].Key, 0), gone(list[52427].Key, -1))
	if x := opened(t, list); x.Len() != 52430 || !slices.Equal(x.All(), list) {
		t.Errorf("with two versions more: Len %d", x.Len())
	}
}

// P9.1: where ErrOrder and ErrLong both apply, ErrOrder is the answer, wherever they stand.
func TestOrderAheadOfLength(t *testing.T) {
	long := live("m", 1, strings.Repeat("v", fit+1))
	for ahead := range 10 {
		list := amid(ahead, 10, long)
		refusedList(t, list, api.ErrLong)
		for i := range list {
			other := slices.Clone(list)
			other[i] = api.Entry{Key: other[i].Key, Seq: 1, Dead: true, Value: "x"}
			if i == ahead {
				other = append(other, other[0])
			}
			refusedList(t, other, api.ErrOrder)
		}
		refusedList(t, append(slices.Clone(list), list[len(list)-1]), api.ErrOrder)
		refusedList(t, slices.Concat(list[:1], list), api.ErrOrder)
	}
	keys := append(amid(7, 0, gone(strings.Repeat("f", 40000), 1)), gone(strings.Repeat("g", 40000), 1))
	refusedList(t, keys, api.ErrLong)
	refusedList(t, append(keys, gone("a", 1)), api.ErrOrder)
	list := short(52429)
	list[52428] = list[52427]
	refusedList(t, list, api.ErrOrder)
	list = append(short(52429), gone("", 1))
	refusedList(t, list, api.ErrOrder)
}

// with: the payloads with another one in some place.
func with(payloads []string, i int, payload string) []string {
	other := slices.Clone(payloads)
	other[i] = payload
	return other
}

// P9.2: each other bit of a filter, and filters of another length.
func TestOtherFilters(t *testing.T) {
	for _, list := range [][]api.Entry{nine(), over(), many(17)} {
		payloads := paperPayloads(paperChunks(list))
		at := len(payloads) - 2
		filter := payloads[at]
		for bit := range 8 * len(filter) {
			other := []byte(filter)
			other[bit/8] ^= 1 << (bit % 8)
			refusedText(t, paperFrames(with(payloads, at, string(other))), "another bit")
		}
		var all []string
		for _, version := range list {
			all = append(all, version.Key)
		}
		for _, other := range []string{
			"", filter + "\x00", filter + "\xff", filter[1:], filter[:len(filter)-1], "\x00" + filter, filter + filter,
			strings.Repeat("\xff", len(filter)), strings.Repeat("\x00", len(filter)),
			paperFilter(append(paperKeys(list), "more")), paperFilter(append(paperKeys(list), list[0].Key)), paperFilter(paperKeys(list)[1:]),
		} {
			refusedText(t, paperFrames(with(payloads, at, other)), "another filter")
		}
		if twice := paperFilter(all); twice != filter { // each version's key, so that some count twice
			refusedText(t, paperFrames(with(payloads, at, twice)), "a filter of doubles")
		}
	}
	refusedText(t, paperFrames([]string{"\x00", "\x00", "TRM1\x00\x00"}), "a filter without keys that has a byte")
}

// P9.2: other keys, places and numbers in the index. nine() has the blocks a to h at 0 and i at 41 (hex).
func TestOtherIndexes(t *testing.T) {
	payloads := paperPayloads(paperChunks(nine()))
	if payloads[2] != bytes("02 0168 00 0169 41") {
		t.Fatalf("the index is %x", payloads[2])
	}
	for _, other := range []string{
		"", "00", "01", "02", "80", "8200 0168 00 0169 41",
		"01 0168 00 0169 41", "03 0168 00 0169 41", "00 0168 00 0169 41",
		"01 0168 00", "01 0169 00", "01 0169 41", "02 0168 00", "02 0169 41", "02 0168 00 0169", "02 0168 00 01",
		"02 0167 00 0169 41", "02 0169 00 0169 41", "02 0161 00 0169 41", "02 0168 00 0168 41", "02 0168 00 016a 41",
		"02 00 00 0169 41", "02 0168 00 00 41", "02 026800 00 0169 41", "02 0168 00 026969 41",
		"02 0168 01 0169 41", "02 0168 8000 0169 41", "02 0168 08 0169 41", "02 0168 00 0169 40", "02 0168 00 0169 42", "02 0168 00 0169 49",
		"02 0168 00 0169 00", "02 0168 41 0169 41", "02 0168 41 0169 00", "02 0168 00 0169 c100", "02 0168 00 0169 ffffffffffffffffff01", "02 0168 00 0169 51",
		"02 0169 41 0168 00", "02 0169 00 0168 41", "02 810068 00 0169 41",
		"02 0168 00 0169 41 00", "02 0168 00 0169 41 016a 51", "03 0168 00 0169 41 016a 51", "03 0168 00 0169 41 0169 51",
	} {
		refusedText(t, paperFrames(with(payloads, 2, bytes(other))), "the index "+other)
	}
	for _, other := range []string{"", "01", "8000", "0000", "01 00 00", "01 0161 00"} {
		refusedText(t, paperFrames([]string{bytes(other), "", "TRM1\x00\x00"}), "without versions the index "+other)
	}
}

// P9.2: other places and numbers in the footer, other bytes than TRM1. That of nine() is TRM1 51 09 (hex).
func TestOtherFooters(t *testing.T) {
	payloads := paperPayloads(paperChunks(nine()))
	if payloads[4] != "TRM1"+bytes("51 09") {
		t.Fatalf("the footer is %x", payloads[4])
	}
	for _, other := range []string{
		"", "TRM1", "TRM1\x51", "TRM1\x09\x51", "\x51\x09", "\x51\x09TRM1", "T", "TRM", "TRM\x51\x09",
		"TRM0\x51\x09", "TRM2\x51\x09", "trm1\x51\x09", "TRN1\x51\x09", "1MRT\x51\x09", "TRM11\x51\x09", " TRM1\x51\x09", "\x04TRM1\x51\x09", "\x00\x00\x00\x00\x51\x09",
		"TRM1\x50\x09", "TRM1\x52\x09", "TRM1\x00\x09", "TRM1\x41\x09", "TRM1\x59\x09", "TRM1\x7f\x09", "TRM1\xd1\x00\x09", "TRM1\xd1\x01\x09",
		"TRM1\x51\x08", "TRM1\x51\x0a", "TRM1\x51\x00", "TRM1\x51\x02", "TRM1\x51\x10", "TRM1\x51\x12", "TRM1\x51\x89\x00", "TRM1\x51\x89\x01", "TRM1\x51\x89",
		"TRM1\x51\xff\xff\xff\xff\xff\xff\xff\xff\xff\x01",
		"TRM1\x51\x09\x00", "TRM1\x51\x09\x09", "TRM1\x51\x09TRM1",
	} {
		refusedText(t, paperFrames(with(payloads, 4, other)), "another footer")
	}
	for _, other := range []string{"", "TRM1", "TRM1\x00", "TRM1\x00\x01", "TRM1\x01\x00", "TRM1\x00\x00\x00", "TRM1\x80\x00\x00", "TRM1\x00\x80\x00", "TRM2\x00\x00"} {
		refusedText(t, paperFrames([]string{"\x00", "", other}), "without versions another footer")
	}
}

// cutBy: the list in chunks of these sizes.
func cutBy(list []api.Entry, sizes ...int) [][]api.Entry {
	var chunks [][]api.Entry
	for _, n := range sizes {
		chunks, list = append(chunks, list[:n]), list[n:]
	}
	return chunks
}

// P9.2: versions cut otherwise than eight by eight, an empty block; index, filter and footer are right for that cut.
func TestOtherBlocks(t *testing.T) {
	list := many(20)
	right := paperFrames(paperPayloads(cutBy(list, 8, 8, 4)))
	if text, err := Build(list...); err != api.OK || text != right {
		t.Fatalf("Build: %d", err)
	}
	for _, sizes := range [][]int{
		{20}, {8, 12}, {12, 8}, {16, 4}, {9, 8, 3}, {7, 8, 5}, {8, 7, 5}, {8, 9, 3}, {8, 8, 3, 1}, {8, 8, 1, 3}, {8, 4, 8}, {4, 8, 8}, {1, 8, 8, 3}, {4, 4, 4, 4, 4}, {5, 5, 5, 5},
		{1, 1, 1, 1, 1, 1, 1, 1, 1, 1, 1, 1, 1, 1, 1, 1, 1, 1, 1, 1},
		{0, 8, 8, 4}, {8, 0, 8, 4}, {8, 8, 0, 4}, {8, 8, 4, 0}, {0, 20}, {20, 0}, {0, 0, 8, 8, 4},
	} {
		refusedText(t, paperFrames(paperPayloads(cutBy(list, sizes...))), fmt.Sprint("cut by ", sizes))
	}
	refusedText(t, paperFrames(paperPayloads([][]api.Entry{{}})), "an empty block alone")
	refusedText(t, paperFrames(paperPayloads(cutBy(list[:16], 8, 8, 0))), "an empty block behind whole ones")
	refusedText(t, paperFrames(paperPayloads(cutBy(list[:8], 4, 4))), "two halves of a block")
	refusedText(t, paperFrames(paperPayloads(cutBy(list[:9], 9))), "nine in a block")
}

// P9.2: blocks that are right by themselves but don't rise; index, filter and footer are made for them as they stand.
func TestBlocksThatDoNotRise(t *testing.T) {
	c := cutBy(many(24), 8, 8, 8)
	for _, chunks := range [][][]api.Entry{
		{c[1], c[0], c[2]}, {c[0], c[2], c[1]}, {c[2], c[1], c[0]}, {c[1], c[2], c[0]}, // in another order
		{c[0], c[0]}, {c[0], c[0], c[1]}, {c[0], c[1], c[1]}, // one of them twice
		{c[0], c[0][7:]}, {c[0], c[1], c[1][7:]}, // the last version again, over the border
		{c[0], {gone(c[0][7].Key, c[0][7].Seq)}}, {c[0], {live(c[0][7].Key, c[0][7].Seq, "other")}}, // an equal one, over the border
		{c[0], {gone(c[0][7].Key, c[0][7].Seq+1)}}, // one key, Seqs that rise over the border
		{c[0], {gone("", 9)}},
	} {
		refusedText(t, paperFrames(paperPayloads(chunks)), "blocks that don't rise")
	}
	wantTable(t, append(slices.Clone(c[0]), gone(c[0][7].Key, c[0][7].Seq-1)))
	wantTable(t, append(slices.Clone(c[0]), gone(c[0][7].Key+"\x00", math.MaxInt)))
}

// P9.2: blocks' payloads that are no block.
func TestNoBlocks(t *testing.T) {
	payloads := paperPayloads(paperChunks(nine()))
	for _, other := range []string{
		"", "00", "80", "01", "01 0001691000017600", "01 00016910000176 00", "02 00016910000176", "8100 00016910000176", "01 00016910020176", "01 000169 10 01 00",
		"ffffffffffffffffff01", "ffffffffffffffffff01 00016910000176", "808080808080808080 01 00016910000176",
		"01 01016910000176", "01 00016810000176", "01 00016a10000176", "01 0002690010000176",
	} {
		text := paperFrames(with(payloads, 1, bytes(other)))
		refusedText(t, text, "the block "+other)
	}
}

// P9.2: a frame too many or too few, frames in another order.
func TestOtherFrames(t *testing.T) {
	for _, list := range [][]api.Entry{nil, nine()[:1], nine(), over(), many(17)} {
		payloads := paperPayloads(paperChunks(list))
		for i := range payloads {
			refusedText(t, paperFrames(slices.Delete(slices.Clone(payloads), i, i+1)), "a frame too few")
			refusedText(t, paperFrames(payloads[:i]), "the first frames")
			refusedText(t, paperFrames(payloads[i+1:]), "the last frames")
			for j := range i {
				other := slices.Clone(payloads)
				other[i], other[j] = other[j], other[i]
				refusedText(t, paperFrames(other), "two frames in each other's place")
			}
		}
		for i := range len(payloads) + 1 {
			for _, more := range append([]string{"", "\x00", "x"}, payloads...) {
				refusedText(t, paperFrames(slices.Insert(slices.Clone(payloads), i, more)), "a frame too many")
			}
		}
		refusedText(t, paperFrames(append(slices.Clone(payloads), payloads...)), "the table twice")
	}
	refusedText(t, "", "the empty text")
	refusedText(t, "TRM1\x00\x00", "no frame")
	refusedText(t, paperFrames([]string{"\x00", ""}), "two frames")
}

// P9.2: each bit of a text turned.
func TestTurnedBits(t *testing.T) {
	for _, list := range [][]api.Entry{nil, nine(), over()} {
		text, _ := Build(list...)
		for bit := range 8 * len(text) {
			other := []byte(text)
			other[bit/8] ^= 1 << (bit % 8)
			refusedText(t, string(other), "a turned bit")
		}
	}
}

// nested: a block of some 60000 bytes whose whole keys have more than 2^26: each is the one before with a byte more.
func nested() string {
	const size, count = 32768, 3000
	text := paperNumber(count) + "\x00" + paperText(strings.Repeat("k", size)) + "\x02\x01"
	for i := range count - 1 {
		text += paperNumber(size+i) + "\x01k\x02\x01"
	}
	return text
}

// P9.1: what a text that is no table costs in memory hangs on its own bytes, not on the keys that it tells of:
// they could be more than any memory holds.
func TestOpenOfLongKeys(t *testing.T) {
	block := nested()
	text := paperFrames([]string{block, block, block, "\x03", "", "TRM1\x00\x00"})
	var ahead, behind runtime.MemStats
	runtime.ReadMemStats(&ahead)
	refusedText(t, text, "long keys")
	runtime.ReadMemStats(&behind)
	if cost := behind.TotalAlloc - ahead.TotalAlloc; cost > 1<<24 {
		t.Errorf("%d bytes for a text of %d", cost, len(text))
	}
}

// R5: the list that is handed in stays as it was, its spare memory too.
func TestListsHandedIn(t *testing.T) {
	for _, list := range [][]api.Entry{
		append(many(18), gone("a", 1), live("a", 2, "spare")),
		append(many(17), over()...),
		{gone("b", 1), gone("a", 1), gone("a", 2), {Key: "c", Dead: true, Value: "x"}, live("a", 1, "spare"), gone("", 9)},
	} {
		kept := slices.Clone(list)
		for n := range len(list) - 1 {
			Build(list[:n]...)
			if !slices.Equal(list, kept) {
				t.Fatalf("behind Build of %d: %s, not %s", n, brief(list), brief(kept))
			}
		}
	}
}

// R5: what is answered doesn't hang on what the caller does later to the list that was handed in.
func TestListsAreNotKept(t *testing.T) {
	list := over()
	text, _ := Build(list...)
	kept := strings.Clone(text)
	x, _ := Open(text)
	for i := range list {
		list[i] = live("changed", i, "changed")
	}
	if text != kept {
		t.Errorf("the text became %q", text)
	}
	isTable(t, x, over())
}

// R5: what All and From answer is new memory: a caller who changes it changes nothing in the table, nor in another answer.
func TestAnswersAreNew(t *testing.T) {
	text, _ := Build(over()...)
	x, _ := Open(text)
	for _, ask := range []func() []api.Entry{
		x.All,
		func() []api.Entry { return x.From("") },
		func() []api.Entry { return x.From("kk") },
		func() []api.Entry { return x.From("\xff") },
	} {
		first, second := ask(), ask()
		kept := slices.Clone(second)
		if unsafe.SliceData(first) == unsafe.SliceData(second) {
			t.Errorf("two answers are one memory")
		}
		for i := range first {
			first[i] = live("changed", i, "changed")
		}
		_ = append(first[:0], gone("z", 1))
		_ = append(first[:cap(first)], gone("z", 1))
		if !slices.Equal(second, kept) {
			t.Errorf("the second answer became %s", brief(second))
		}
		isTable(t, x, over())
	}
	_ = append(x.From("\xff\xff"), gone("z", 1))
	isTable(t, x, over())
}

// R5: a table doesn't hold the text that it was opened from.
func TestTextsAreNotKept(t *testing.T) {
	text, _ := Build(append(over(), live("\xff\xff", 1, strings.Repeat("v", 500)))...)
	x, _ := Open(text)
	from := uintptr(unsafe.Pointer(unsafe.StringData(text)))
	parts := []string{x.filter}
	for _, version := range x.All() {
		parts = append(parts, version.Key, version.Value)
	}
	for _, part := range parts {
		at := uintptr(unsafe.Pointer(unsafe.StringData(part)))
		if part != "" && at >= from && at < from+uintptr(len(text)) {
			t.Errorf("%s is a piece of the text that was handed in", brief(part))
		}
	}
}

// R6: tables have nothing to do with one another, be their texts the same or not.
func TestTablesApart(t *testing.T) {
	text, _ := Build(over()...)
	a, _ := Open(text)
	b, _ := Open(text)
	c := opened(t, many(30))
	list := a.All()
	for i := range list {
		list[i] = gone("changed", i)
	}
	isTable(t, c, many(30))
	isTable(t, b, over())
	isTable(t, a, over())
	if unsafe.SliceData(a.versions) == unsafe.SliceData(b.versions) {
		t.Errorf("two tables are one memory")
	}
}
