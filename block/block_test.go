package block

import (
	"crypto/sha256"
	"encoding/hex"
	"fmt"
	"math"
	"runtime"
	"slices"
	"strconv"
	"strings"
	"testing"
	"unsafe"

	"tarmac/api"
	"tarmac/pack"
)

// live: a version with a value.
func live(key string, seq int, value string) api.Entry {
	return api.Entry{Key: key, Seq: seq, Value: value}
}

// gone: a dead version.
func gone(key string, seq int) api.Entry { return api.Entry{Key: key, Seq: seq, Dead: true} }

// brief: the beginning of a thing, for a message.
func brief(thing any) string {
	text := fmt.Sprintf("%+q", fmt.Sprint(thing))
	return text[:min(len(text), 300)]
}

// bytes: those of a text of hex digits, with spaces and bars between them.
func bytes(digits string) string {
	b, err := hex.DecodeString(strings.NewReplacer(" ", "", "|", "").Replace(digits))
	if err != nil {
		panic(err)
	}
	return string(b)
}

// want asks for the list's block, and for the block's list.
func want(t *testing.T, list []api.Entry, text string) {
	t.Helper()
	if got, err := Encode(list...); err != api.OK || got != text {
		t.Errorf("Encode of %s: %d, %s, not %s", brief(list), err, brief(hex.EncodeToString([]byte(got))), brief(hex.EncodeToString([]byte(text))))
	}
	if got, err := Decode(text); err != api.OK || !slices.Equal(got, list) {
		t.Errorf("Decode of %s: %d, %s, not %s", brief(hex.EncodeToString([]byte(text))), err, brief(got), brief(list))
	}
}

// refusedList asks for ErrOrder, and for nothing beside it.
func refusedList(t *testing.T, list []api.Entry) {
	t.Helper()
	if got, err := Encode(list...); err != api.ErrOrder || got != "" {
		t.Errorf("Encode of %s: %d, %s", brief(list), err, brief(got))
	}
}

// refusedText asks for ErrPack, and for nothing beside it.
func refusedText(t *testing.T, text string) {
	t.Helper()
	if got, err := Decode(text); err != api.ErrPack || len(got) != 0 {
		t.Errorf("Decode of %s: %d, %s", brief(hex.EncodeToString([]byte(text))), err, brief(got))
	}
}

// P8.1: the chapter's examples.
func TestExamples(t *testing.T) {
	want(t, nil, bytes("00"))
	want(t, []api.Entry{live("ab", 3, "x"), gone("ac", 1)}, bytes("02 | 00 02 61 62 06 00 01 78 | 01 01 63 02 01"))
	refusedText(t, bytes("01 00 01 61 02 02"))
	refusedList(t, []api.Entry{live("a", 1, ""), live("a", 2, "")})
}

// P8.1, P8.2: bytes that a program in another language gave.
func TestBytes(t *testing.T) {
	for _, c := range []struct {
		list []api.Entry
		text string
	}{
		{[]api.Entry{live("", 0, "")}, "01 | 00 00 00 00 00"},
		{[]api.Entry{gone("", 0)}, "01 | 00 00 00 01"},
		{[]api.Entry{live("", -1, "\x00")}, "01 | 00 00 01 00 01 00"},
		{[]api.Entry{live("", 5, "x"), gone("", 4), live("", -4, ""), live("\x00", 0, "y")},
			"04 | 00 00 0a 00 01 78 | 00 00 08 01 | 00 00 07 00 00 | 00 01 00 00 00 01 79"},
		{[]api.Entry{live("a", 1, ""), live("ab", 1, "v"), gone("abc", 1), live("b", 1, "w")},
			"04 | 00 01 61 02 00 00 | 01 01 62 02 00 01 76 | 02 01 63 02 01 | 00 01 62 02 00 01 77"},
		{[]api.Entry{live("a", math.MaxInt, "1"), gone("a", 1), live("a", 0, ""), gone("a", -1), live("a", math.MinInt, "2")},
			"05 | 00 01 61 feffffffffffffffff01 00 01 31 | 01 00 02 01 | 01 00 00 00 00 | 01 00 01 01 | 01 00 ffffffffffffffffff01 00 01 32"},
		{[]api.Entry{live("\x00", 63, "\xff\x00"), gone("\x00\x00", 64), live("\x00\xff", -64, ""), live("\xff", -65, "q"), gone("\xff\x00", 8191), live("\xff\xff", 8192, "\xff")},
			"06 | 00 01 00 7e 00 02 ff00 | 01 01 00 8001 01 | 01 01 ff 7f 00 00 | 00 01 ff 8101 00 01 71 | 01 01 00 fe7f 01 | 01 01 ff 808001 00 01 ff"},
		{[]api.Entry{live("a", 1, "x"), gone("b", 1), live("c", 1, "z")},
			"03 | 00 01 61 02 00 01 78 | 00 01 62 02 01 | 00 01 63 02 00 01 7a"},
		{[]api.Entry{gone("abcx", 9), live("abcy", 9, "yy"), gone("abd", 9), live("ad", 9, "")},
			"04 | 00 04 61626378 12 01 | 03 01 79 12 00 02 7979 | 02 01 64 12 01 | 01 01 64 12 00 00"},
	} {
		want(t, c.list, bytes(c.text))
	}
}

// P8.1, P8.2: keys, shares and values just at 127 bytes and above.
func TestLongTexts(t *testing.T) {
	key, value := strings.Repeat("k", 127), strings.Repeat("v", 127)
	want(t, []api.Entry{live(key, 1, value)}, "\x01\x00\x7f"+key+"\x02\x00\x7f"+value)
	want(t, []api.Entry{live(key+"k", 1, value+"v")}, "\x01\x00\x80\x01"+key+"k\x02\x00\x80\x01"+value+"v")
	want(t, []api.Entry{gone(key, 1), gone(key+"k", 1)}, "\x02\x00\x7f"+key+"\x02\x01\x7f\x01k\x02\x01")
	want(t, []api.Entry{gone(key+"k", 1), gone(key+"kk", 1)}, "\x02\x00\x80\x01"+key+"k\x02\x01\x80\x01\x01k\x02\x01")
	long := strings.Repeat("k", 200)
	wantDigest(t, []api.Entry{live(long, 1, strings.Repeat("v", 300)), gone(long+"l", 1), live(long+strings.Repeat("m", 128), 1, "")},
		649, "fefa53cc155a94fcbbebf620d9d12ecc9cc5ddf200108f72177ad9e82e407c74")
}

// P8.1, P8.2: many versions, with as many bytes, and the digest of them, as a program in another language gave.
func TestManyVersions(t *testing.T) {
	var list []api.Entry
	for i := range 1000 {
		version := live("key "+strconv.Itoa(10000+i/3), 5-i%3, strings.Repeat("v", i%7))
		if i%5 == 0 {
			version = gone(version.Key, version.Seq)
		}
		list = append(list, version)
	}
	wantDigest(t, list, 7580, "0be4631bef25ce451d6f6f37237dd09293ed96ef31d4a36c8cf520d9001e53af")
}

func wantDigest(t *testing.T, list []api.Entry, size int, digest string) {
	t.Helper()
	text, err := Encode(list...)
	if got := fmt.Sprintf("%x", sha256.Sum256([]byte(text))); err != api.OK || len(text) != size || got != digest {
		t.Errorf("Encode of %s: %d, %d bytes, digest %s", brief(list), err, len(text), got)
	}
	want(t, list, text)
}

// P8.1, P8.2: numbers of versions just below and just above where their bytes grow.
func TestNumbersOfVersions(t *testing.T) {
	for _, c := range []struct {
		n     int
		count string
	}{{1, "01"}, {2, "02"}, {127, "7f"}, {128, "8001"}, {129, "8101"}, {16383, "ff7f"}, {16384, "808001"}} {
		list := make([]api.Entry, c.n)
		for i := range list {
			list[i] = gone("", -1-i)
		}
		text, err := Encode(list...)
		if err != api.OK || !strings.HasPrefix(text, bytes(c.count)+"\x00\x00\x01\x01") {
			t.Errorf("%d versions: %d, %s", c.n, err, brief(text))
		}
		want(t, list, text)
	}
}

// P8.1: Shared, each way round.
func TestShared(t *testing.T) {
	long := strings.Repeat("x", 1000)
	for _, c := range []struct {
		a, b string
		n    int
	}{
		{"", "", 0},
		{"", "a", 0},
		{"", "\x00", 0},
		{"a", "a", 1},
		{"a", "b", 0},
		{"abc", "abd", 2},
		{"ab", "abc", 2},
		{"abc", "abc", 3},
		{"xbc", "abc", 0}, // what is alike behind the first difference doesn't count
		{"axc", "abc", 1},
		{"\x00\x00", "\x00", 1},
		{"\x00", "\xff", 0},
		{"\xff\xff", "\xff\xff\x00", 2},
		{"ü", "ö", 1}, // bytes, not runes
		{"é", "e", 0},
		{long, long, 1000},
		{long, long + "y", 1000},
		{long + "y", long + "z", 1000},
		{"y" + long, "z" + long, 0},
	} {
		if got := Shared(c.a, c.b); got != c.n {
			t.Errorf("Shared of %s and %s: %d, not %d", brief(c.a), brief(c.b), got, c.n)
		}
		if got := Shared(c.b, c.a); got != c.n {
			t.Errorf("Shared of %s and %s: %d, not %d", brief(c.b), brief(c.a), got, c.n)
		}
	}
}

// P8.1: each pair of versions that doesn't rise strictly, at a list's beginning, in its middle and at its end.
func TestEncodeOfWrongOrder(t *testing.T) {
	for _, pair := range [][2]api.Entry{
		{live("m", 1, "x"), live("m", 1, "x")},
		{live("m", 1, "x"), live("m", 1, "y")}, // equal in the order, whatever their values
		{live("m", 1, "x"), gone("m", 1)},
		{gone("m", 1), live("m", 1, "")},
		{gone("m", 1), gone("m", 1)},
		{live("m", 0, ""), live("m", 0, "")},
		{live("mn", 1, ""), live("mm", 1, "")},
		{live("mn", 9, ""), live("mm", 1, "")}, // Seqs count only of one key
		{live("mn", 1, ""), live("mm", 9, "")},
		{live("mm", 1, ""), live("m", 1, "")},
		{live("m\x00", 1, ""), live("m", 1, "")},
		{live("m\xff", 1, ""), live("m\x00", 1, "")},
		{live("m\x80", 1, ""), live("m\x7f", 1, "")},
		{live("m", 1, ""), live("m", 2, "")},
		{gone("m", 1), gone("m", 2)},
		{live("m", -1, ""), live("m", 0, "")},
		{live("m", -2, ""), live("m", -1, "")},
		{live("m", math.MinInt, ""), live("m", math.MaxInt, "")},
		{live("m", math.MaxInt-1, ""), live("m", math.MaxInt, "")},
		{live("m", math.MinInt, ""), live("m", math.MinInt, "")},
		{live("m", math.MaxInt, ""), live("m", math.MaxInt, "")},
	} {
		for _, list := range placed(pair[:]...) {
			refusedList(t, list)
		}
	}
	// The empty key can only stand at the beginning.
	for _, pair := range [][]api.Entry{{gone("", 1), gone("", 1)}, {gone("", 0), gone("", 1)}, {live("a", 5, ""), live("", 1, "")}} {
		refusedList(t, pair)
		refusedList(t, append(pair, gone("z", 1)))
	}
	refusedList(t, []api.Entry{gone("a", 1), gone("", 1), gone("b", 1)})
	refusedList(t, []api.Entry{gone("a", 1), gone("b", 1), gone("", 1)})
}

// placed: the versions alone, and at the beginning of others, amid them, and at their end.
func placed(versions ...api.Entry) [][]api.Entry {
	ahead := []api.Entry{live("a", 7, "x"), gone("a", 3), live("b", 1, "")}
	behind := []api.Entry{live("y", 7, "x"), gone("y", 3), live("z", 1, "")}
	return [][]api.Entry{
		versions,
		slices.Concat(versions, behind),
		slices.Concat(ahead, versions, behind),
		slices.Concat(ahead, versions),
	}
}

// P8.1: a dead version with a value, wherever it stands; with none it is well.
func TestEncodeOfDeadWithValue(t *testing.T) {
	for _, value := range []string{"x", "\x00", strings.Repeat("v", 200)} {
		for _, list := range placed(api.Entry{Key: "m", Seq: 1, Dead: true, Value: value}) {
			refusedList(t, list)
		}
		refusedList(t, []api.Entry{{Dead: true, Value: value}})
		refusedList(t, []api.Entry{{Dead: true, Value: value}, {Key: "a"}})
	}
	for _, list := range placed(gone("m", 1)) {
		text, err := Encode(list...)
		if err != api.OK {
			t.Errorf("Encode of %s: %d", brief(list), err)
		}
		want(t, list, text)
	}
}

// P8.1, R3: a list that is nil and one without elements are the same.
func TestEncodeOfNothing(t *testing.T) {
	want(t, nil, "\x00")
	want(t, []api.Entry{}, "\x00")
	if got, err := Encode(); got != "\x00" || err != api.OK {
		t.Errorf("Encode of nothing: %q, %d", got, err)
	}
}

// P8.1: texts that are no block: each is a block but for what is told.
func TestDecodeOfNoBlock(t *testing.T) {
	for _, c := range []struct{ text, why string }{
		{"", "empty"},
		{"80", "a number that doesn't end"},
		{"8000", "no version, by a number with more bytes than are enough"},
		{"0000", "no version, and something behind"},
		{"01", "a version that isn't there"},
		{"00 00 01 61 02 01", "one version more than is told"},
		{"02 00 01 61 02 01", "one version less than is told"},
		{"01 | 00 01 61 02 01 | 00 01 62 02 01", "one version more than is told"},
		{"03 | 00 01 61 02 01 | 00 01 62 02 01", "one version less than is told"},
		{"81 00 | 00 01 61 02 01", "a number with more bytes than are enough"},
		{"ff ff ff ff 07 | 00 01 61 02 01", "2^31 - 1 versions"},
		{"ff ff ff ff ff ff ff ff 7f | 00 01 61 02 01", "2^63 - 1 versions"},
		{"80 80 80 80 80 80 80 80 80 01 | 00 01 61 02 01", "2^63 versions"},
		{"ff ff ff ff ff ff ff ff ff 01", "2^64 - 1 versions"},
		{"ff ff ff ff ff ff ff ff ff 01 | 00 01 61 02 01", "2^64 - 1 versions"},
		{"ff ff ff ff ff ff ff ff ff 02 | 00 01 61 02 01", "a number above 2^64 - 1"},
		{"ff ff ff ff ff ff ff ff ff ff 01 | 00 01 61 02 01", "a number of eleven bytes"},
		{"01 | 01 01 61 02 01", "the first one shares a byte"},
		{"01 | 01 00 02 01", "the first one shares a byte"},
		{"01 | 02 01 61 02 01", "the first one shares bytes"},
		{"01 | ff ff ff ff ff ff ff ff ff 01 01 61 02 01", "the first one shares 2^64 - 1 bytes"},
		{"02 | 00 01 61 02 01 | 02 01 62 02 01", "a share above the key before"},
		{"02 | 00 01 61 02 01 | 02 00 00 01", "a share above the key before"},
		{"02 | 00 00 02 01 | 01 01 61 02 01", "a share above the empty key before"},
		{"02 | 00 01 61 02 01 | ff ff ff ff ff ff ff ff 7f 01 62 02 01", "a share of 2^63 - 1"},
		{"02 | 00 01 61 02 01 | 80 80 80 80 80 80 80 80 80 01 01 62 02 01", "a share of 2^63"},
		{"02 | 00 01 61 02 01 | ff ff ff ff ff ff ff ff ff 01 01 62 02 01", "a share of 2^64 - 1"},
		{"03 | 00 03 61 62 63 02 01 | 00 01 62 02 01 | 02 01 63 02 01", "a share above the key before, not above the one before that"},
		{"02 | 00 01 61 02 01 | 00 02 61 62 02 01", "a share of 0 where the keys share 1"},
		{"02 | 00 02 61 62 02 01 | 01 02 62 63 02 01", "a share of 1 where the keys share 2"},
		{"02 | 00 03 61 62 63 02 01 | 01 02 62 64 02 01", "a share of 1 where the keys share 2"},
		{"02 | 00 01 61 04 01 | 00 01 61 02 01", "a share of 0 where the keys are one"},
		{"02 | 00 02 61 62 04 01 | 01 01 62 02 01", "a share of 1 where the keys are one"},
		{"01 | 00 01 61 02 02", "neither 0 nor 1"},
		{"01 | 00 01 61 02 02 00", "neither 0 nor 1, a value behind"},
		{"01 | 00 01 61 02 7f", "neither 0 nor 1"},
		{"01 | 00 01 61 02 80 02", "neither 0 nor 1: 256"},
		{"01 | 00 01 61 02 80 02 00", "neither 0 nor 1: 256, a value behind"},
		{"01 | 00 01 61 02 81 80 80 80 10", "neither 0 nor 1: 2^32 + 1"},
		{"01 | 00 01 61 02 ff ff ff ff ff ff ff ff ff 01", "neither 0 nor 1: 2^64 - 1"},
		{"01 | 00 01 61 02 81 00", "1 by more bytes than are enough"},
		{"01 | 00 01 61 02 80 00 00", "0 by more bytes than are enough"},
		{"01 | 00 01 61 02 01 00", "a dead one with an empty value behind"},
		{"01 | 00 01 61 02 01 01 78", "a dead one with a value behind"},
		{"01 | 00 01 61 02 00", "a living one without a value"},
		{"01 | 00 01 61 02 00 02 78", "a value that is cut off"},
		{"01 | 00 01 61 02 00 81 00 78", "a value's length by more bytes than are enough"},
		{"01 | 00 01 61 02 00 ff ff ff ff ff ff ff ff ff 01", "a value's length of 2^64 - 1"},
		{"01 | 80 00 01 61 02 01", "a share by more bytes than are enough"},
		{"01 | 00 81 00 61 02 01", "a key's length by more bytes than are enough"},
		{"01 | 00 ff ff ff ff ff ff ff ff ff 01 61 02 01", "a key's length of 2^64 - 1"},
		{"01 | 00 05 61 02 01", "a key that is cut off"},
		{"01 | 00 01 61 82 00 01", "Seq by more bytes than are enough"},
		{"01 | 00 01 61 ff ff ff ff ff ff ff ff ff 02 01", "Seq above 64 bits"},
		{"02 | 00 01 61 02 01 | 01 00 02 01", "equal versions"},
		{"02 | 00 01 61 02 00 01 78 | 01 00 02 00 01 79", "equal versions but for their values"},
		{"02 | 00 01 61 02 01 | 01 00 04 01", "one key, Seqs that rise"},
		{"02 | 00 01 61 01 01 | 01 00 00 01", "one key, Seqs that rise from -1 to 0"},
		{"02 | 00 01 61 03 01 | 01 00 01 01", "one key, Seqs that rise from -2 to -1"},
		{"02 | 00 01 61 ff ff ff ff ff ff ff ff ff 01 01 | 01 00 fe ff ff ff ff ff ff ff ff 01 01", "one key, Seqs that rise from end to end"},
		{"02 | 00 00 02 01 | 00 00 04 01", "the empty key, Seqs that rise"},
		{"02 | 00 00 02 01 | 00 00 02 01", "the empty key, equal versions"},
		{"02 | 00 01 62 02 01 | 00 01 61 02 01", "keys that fall"},
		{"02 | 00 02 61 62 02 01 | 01 01 61 02 01", "keys that fall behind what they share"},
		{"02 | 00 01 80 02 01 | 00 01 7f 02 01", "keys that fall, as bytes from 0 on"},
		{"02 | 00 02 61 62 04 01 | 01 00 02 01", "a beginning behind what is longer"},
		{"02 | 00 01 61 04 01 | 00 00 02 01", "the empty key behind another"},
		{"03 | 00 01 61 02 01 | 00 01 62 02 01 | 01 00 02 01", "the last two are equal"},
		{"03 | 00 01 61 02 01 | 01 00 02 01 | 00 01 62 02 01", "the first two are equal"},
	} {
		if got, err := Decode(bytes(c.text)); err != api.ErrPack || len(got) != 0 {
			t.Errorf("%s: Decode of %s: %d, %s", c.why, c.text, err, brief(got))
		}
	}
}

// P8.1: what a text that is no block costs in memory hangs on its own bytes, not on the keys that it tells of:
// they could be more than any memory holds.
func TestDecodeOfLongKeysWithWrongEnd(t *testing.T) {
	const size, count = 1 << 16, 1 << 12 // whole keys of 2^28 bytes and more in all
	w := pack.New()
	w.Num(count, 0)
	w.Text(strings.Repeat("k", size))
	w.Int(1)
	w.Num(1)
	for i := range count - 1 {
		w.Num(uint64(size + i))
		w.Text("k")
		w.Int(1)
		w.Num(1)
	}
	text := w.Bytes()
	for _, wrong := range []string{text + "\x00", text[:len(text)-1], text[:len(text)-1] + "\x02"} {
		var ahead, behind runtime.MemStats
		runtime.ReadMemStats(&ahead)
		refusedText(t, wrong)
		runtime.ReadMemStats(&behind)
		if cost := behind.TotalAlloc - ahead.TotalAlloc; cost > 1<<24 {
			t.Errorf("%d bytes for a text of %d", cost, len(wrong))
		}
	}
}

// R5: the list that is handed in stays as it was, its spare memory too.
func TestListsHandedIn(t *testing.T) {
	for _, list := range [][]api.Entry{
		{live("a", 1, "x"), gone("ab", 3), live("ab", 2, ""), live("b", 0, "y"), live("q", 8, "spare"), gone("p", 9)},
		{gone("b", 1), gone("a", 1), gone("a", 2), {Key: "c", Dead: true, Value: "x"}, live("a", 1, "spare"), gone("", 9)},
	} {
		kept := slices.Clone(list)
		for n := range len(list) - 1 {
			Encode(list[:n]...)
			if !slices.Equal(list, kept) {
				t.Fatalf("behind Encode of %d: %s, not %s", n, brief(list), brief(kept))
			}
		}
	}
}

// R5: what is answered doesn't hang on what the caller does later to the list that was handed in.
func TestListsAreNotKept(t *testing.T) {
	list := []api.Entry{live("a", 1, "x"), gone("ab", 3)}
	text, _ := Encode(list...)
	kept := strings.Clone(text)
	list[0], list[1] = gone("z", 9), live("", 1, "q")
	if text != kept {
		t.Errorf("the block became %q", text)
	}
	want(t, []api.Entry{live("a", 1, "x"), gone("ab", 3)}, text)
}

// R5: two answers share no memory, and none with the text.
func TestAnswersAreNew(t *testing.T) {
	list := []api.Entry{live("a", 2, "x"), gone("a", 1), live("ab", 3, strings.Repeat("v", 500)), live("b", 1, "")}
	text, _ := Encode(list...)
	first, _ := Decode(text)
	second, _ := Decode(text)
	for i := range first {
		first[i] = live("changed", i, "changed")
	}
	_ = append(first[:0], gone("z", 1))
	if !slices.Equal(second, list) {
		t.Errorf("the second answer became %s", brief(second))
	}
	want(t, list, text)
	from := uintptr(unsafe.Pointer(unsafe.StringData(text)))
	for _, version := range second {
		for _, part := range []string{version.Key, version.Value} {
			at := uintptr(unsafe.Pointer(unsafe.StringData(part)))
			if part != "" && at >= from && at < from+uintptr(len(text)) {
				t.Errorf("%s is a piece of the text that was handed in", brief(part))
			}
		}
	}
}
