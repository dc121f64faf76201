package frame

import (
	"encoding/binary"
	"hash/crc32"
	"math"
	"math/rand"
	"slices"
	"strings"
	"testing"
	"unsafe"

	"tarmac/api"
)

// frameOf: a payload's frame, written by other means than the package's own; of any length.
func frameOf(payload string) string {
	return frameWith(uint32(len(payload)), payload)
}

// frameWith: as frameOf, but of the length that is told; its sum is right.
func frameWith(length uint32, payload string) string {
	head := binary.BigEndian.AppendUint32(nil, length)
	sum := crc32.ChecksumIEEE(append(slices.Clone(head), payload...))
	return string(binary.BigEndian.AppendUint32(head, sum)) + payload
}

// randomText: bytes of all kinds, the same in each run of one source.
func randomText(source *rand.Rand, size int) string {
	text := make([]byte, size)
	source.Read(text)
	return string(text)
}

// edgePayloads: none, the bytes at the ends, the lengths at which another byte of the length counts, the greatest.
func edgePayloads() []string {
	source := rand.New(rand.NewSource(1))
	list := []string{"", "a", "\x00", "\xff", "\x00\x00\x00\x00", "\xff\xff\xff\xff", "123456789", "über"}
	for _, size := range []int{7, 8, 9, 127, 128, 255, 256, 257, 4096, api.MaxFrame - 1, api.MaxFrame} {
		list = append(list, randomText(source, size))
	}
	return list
}

func sealed(t *testing.T, payloads ...string) string {
	t.Helper()
	text, err := Seal(payloads...)
	if err != api.OK {
		t.Fatalf("Seal of %d payloads: error %d", len(payloads), err)
	}
	return text
}

// wantScan: Scan answers these payloads and their end, and First the same of each in turn, and ErrPack at the end.
func wantScan(t *testing.T, text string, payloads []string, end int) {
	t.Helper()
	got, at := Scan(text)
	if !slices.Equal(got, payloads) || at != end {
		t.Errorf("Scan of %d bytes: %d payloads, %d; not %d, %d", len(text), len(got), at, len(payloads), end)
	}
	at = 0
	for i, payload := range payloads {
		got, behind, err := First(text, at)
		if got != payload || behind != at+8+len(payload) || err != api.OK {
			t.Errorf("First at %d, payload %d: %d bytes, %d, error %d", at, i, len(got), behind, err)
		}
		at += 8 + len(payload)
	}
	if at != end {
		t.Errorf("the payloads end at %d, not at %d", at, end)
	}
	wantNone(t, text, end)
}

// wantNone: no frame stands at the place, and beside the error all is zero.
func wantNone(t *testing.T, text string, at int) {
	t.Helper()
	if payload, behind, err := First(text, at); payload != "" || behind != 0 || err != api.ErrPack {
		t.Errorf("First of %d bytes at %d: %q, %d, error %d", len(text), at, payload, behind, err)
	}
}

// P2.1, P2.2: the chapter's examples.
func TestExamples(t *testing.T) {
	if Sum("123456789") != 0xcbf43926 || Sum("1234", "56789") != 0xcbf43926 || Sum() != 0 {
		t.Errorf("sums %x, %x, %x", Sum("123456789"), Sum("1234", "56789"), Sum())
	}
	if got := sealed(t, ""); got != "\x00\x00\x00\x00\x21\x44\xdf\x1c" {
		t.Errorf("% x", got)
	}
	if got := sealed(t, "a"); len(got) != 9 {
		t.Errorf("% x", got)
	}
	both := sealed(t, "") + sealed(t, "a")
	wantScan(t, both, []string{"", "a"}, 17)
	wantScan(t, both[:16], []string{""}, 8)
	if payload, behind, err := First(both, 8); payload != "a" || behind != 17 || err != api.OK {
		t.Error(payload, behind, err)
	}
	for _, at := range []int{9, -1, 17} {
		wantNone(t, both, at)
	}
}

// P2.1: the sum is the one that is told, of each byte alone and of texts of many lengths.
func TestSum(t *testing.T) {
	for b := range 256 {
		text := string([]byte{byte(b)})
		if Sum(text) != crc32.ChecksumIEEE([]byte(text)) {
			t.Errorf("byte %x: %x", b, Sum(text))
		}
	}
	source := rand.New(rand.NewSource(2))
	for size := range 300 {
		text := randomText(source, size)
		if Sum(text) != crc32.ChecksumIEEE([]byte(text)) {
			t.Errorf("%d bytes: %x", size, Sum(text))
		}
	}
	for _, text := range edgePayloads() {
		if Sum(text) != crc32.ChecksumIEEE([]byte(text)) {
			t.Errorf("%d bytes: %x", len(text), Sum(text))
		}
	}
}

// P2.1: no part, a list without parts and empty parts have the sum of the empty text.
func TestSumOfNothing(t *testing.T) {
	if Sum() != 0 || Sum([]string{}...) != 0 || Sum("") != 0 || Sum("", "", "") != 0 {
		t.Error(Sum(), Sum([]string{}...), Sum(""), Sum("", "", ""))
	}
}

// P2.1: a text has one sum, wherever it is parted, and with whatever empty parts between.
func TestSumOfParts(t *testing.T) {
	source := rand.New(rand.NewSource(3))
	text := randomText(source, 60)
	whole := crc32.ChecksumIEEE([]byte(text))
	for i := range len(text) + 1 {
		for j := i; j <= len(text); j++ {
			if got := Sum(text[:i], text[i:j], text[j:]); got != whole {
				t.Fatalf("parted at %d and %d: %x, not %x", i, j, got, whole)
			}
		}
	}
	if Sum(strings.Split(text, "")...) != whole {
		t.Error("parted into characters")
	}
	if Sum("", text[:9], "", "", text[9:], "") != whole {
		t.Error("with empty parts")
	}
	if Sum("ab", "cd") == Sum("cd", "ab") {
		t.Error("the parts' order doesn't count")
	}
}

// P2.1: no payloads have no frames.
func TestSealOfNothing(t *testing.T) {
	if sealed(t) != "" || sealed(t, []string{}...) != "" {
		t.Error("nothing has frames")
	}
	wantScan(t, "", nil, 0)
}

// P2.1: each payload's frame has the bytes that are told, alone and in a list.
func TestSeal(t *testing.T) {
	var all string
	for _, payload := range edgePayloads() {
		all += frameOf(payload)
		if sealed(t, payload) != frameOf(payload) {
			t.Errorf("frame of %d bytes", len(payload))
		}
	}
	if sealed(t, edgePayloads()...) != all {
		t.Error("frames in a list")
	}
}

// P2.1: at MaxFrame all is well; one byte more is ErrLong, wherever it stands, and nothing beside it.
func TestSealTooLong(t *testing.T) {
	most, more := strings.Repeat("m", api.MaxFrame), strings.Repeat("m", api.MaxFrame+1)
	if got := sealed(t, most, "b"); got != frameOf(most)+frameOf("b") {
		t.Error("frames at the limit")
	}
	for _, payloads := range [][]string{{more}, {"a", more}, {more, "a"}, {"a", more, "b"}, {most, more}, {more, more}, {strings.Repeat("x", 1<<24)}} {
		if text, err := Seal(payloads...); text != "" || err != api.ErrLong {
			t.Errorf("%d payloads: %d bytes, error %d", len(payloads), len(text), err)
		}
	}
}

// P2.1: a length above MaxFrame is no frame's, even with all its bytes and a right sum.
func TestLengthAboveLimit(t *testing.T) {
	good := frameOf("good")
	for _, size := range []int{api.MaxFrame + 1, api.MaxFrame + 2, 2 * api.MaxFrame, 1 << 24} {
		long := frameOf(strings.Repeat("l", size))
		wantScan(t, long, nil, 0)
		wantScan(t, good+long+good, []string{"good"}, len(good))
	}
	for _, length := range []uint32{api.MaxFrame + 1, 1 << 24, 1 << 31, 1<<31 - 1, math.MaxUint32, math.MaxUint32 - 7} {
		wrong := frameWith(length, "good")
		wantScan(t, wrong, nil, 0)
		wantScan(t, good+wrong, []string{"good"}, len(good))
	}
}

// P2.1: a length other than the payload's own is no frame's, or takes another piece of the text.
func TestLengthBesides(t *testing.T) {
	good := frameOf("good")
	for length := range uint32(20) {
		text := frameWith(length, "good")
		if length == 4 {
			wantScan(t, text, []string{"good"}, len(text))
		} else {
			wantScan(t, text, nil, 0)
			wantScan(t, text+good, nil, 0)
		}
	}
	// The sum goes over the length too: that of the payload alone isn't right.
	alone := "\x00\x00\x00\x04" + string(binary.BigEndian.AppendUint32(nil, crc32.ChecksumIEEE([]byte("good")))) + "good"
	wantScan(t, alone, nil, 0)
	// The greatest byte comes first, in the length and in the sum.
	little := binary.LittleEndian.AppendUint32([]byte("\x00\x00\x00\x04"), Sum("\x00\x00\x00\x04", "good"))
	wantScan(t, string(little)+"good", nil, 0)
}

// P2.1: First answers at every place of a text: the frame where one begins, ErrPack elsewhere.
func TestFirstAtEveryPlace(t *testing.T) {
	payloads := []string{"", "a", "bc", "", "def", strings.Repeat("\x00", 12)}
	text := sealed(t, payloads...)
	starts := map[int]string{}
	at := 0
	for _, payload := range payloads {
		starts[at] = payload
		at += 8 + len(payload)
	}
	for at := -20; at < len(text)+20; at++ {
		payload, begins := starts[at]
		if !begins {
			wantNone(t, text, at)
			continue
		}
		got, behind, err := First(text, at)
		if got != payload || behind != at+8+len(payload) || err != api.OK {
			t.Errorf("First at %d: %q, %d, error %d", at, got, behind, err)
		}
	}
}

// P2.1: places that are far from the text are answered too.
func TestFirstFarAway(t *testing.T) {
	for _, text := range []string{"", "a", frameOf(""), frameOf("abc")} {
		for _, at := range []int{math.MinInt, math.MinInt + 1, -9, -8, -1, len(text), len(text) + 1, len(text) + 8, math.MaxInt - 8, math.MaxInt - 7, math.MaxInt} {
			wantNone(t, text, at)
		}
	}
}

// P2.1: First asks for the frame at its place alone, whatever stands ahead of it or behind it.
func TestFirstAmongWrongBytes(t *testing.T) {
	text := "wrong" + frameOf("right") + "wrong again"
	wantScan(t, text, nil, 0)
	if payload, behind, err := First(text, 5); payload != "right" || behind != 18 || err != api.OK {
		t.Error(payload, behind, err)
	}
}

// P2.1: the text that ends within a frame's length, sum or payload has none there.
func TestTextCutShort(t *testing.T) {
	for _, payload := range []string{"", "a", "payload", strings.Repeat("\x00", 40)} {
		whole := frameOf(payload)
		for cut := range len(whole) {
			wantScan(t, whole[:cut], nil, 0)
			wantScan(t, frameOf("ahead")+whole[:cut], []string{"ahead"}, 13)
		}
		wantScan(t, whole, []string{payload}, len(whole))
	}
}

// P2.1: Scan stops ahead of what is no frame; right frames behind it don't count.
func TestScanStops(t *testing.T) {
	a, b := frameOf("a"), frameOf("bb")
	spoilt := a[:8] + "A"
	for _, wrong := range []string{"x", spoilt, strings.Repeat("\x00", 8), strings.Repeat("\xff", 16), "\x00", a[1:], a[:8]} {
		if strings.HasPrefix(wrong+b, a) {
			t.Fatal("a wrong text that is right")
		}
		wantScan(t, wrong+b, nil, 0)
		wantScan(t, a+wrong, []string{"a"}, len(a))
		wantScan(t, a+b+wrong+a, []string{"a", "bb"}, len(a+b))
	}
}

// P2.1: payloads that look like frames are payloads.
func TestFramesWithinFrames(t *testing.T) {
	inner := frameOf("inner")
	outer := frameOf(inner + inner)
	wantScan(t, outer, []string{inner + inner}, len(outer))
	if payload, behind, err := First(outer, 8); payload != "inner" || behind != 8+len(inner) || err != api.OK {
		t.Error(payload, behind, err)
	}
}

// P2.2: what was sealed is scanned again, with its length; with any beginning of another frame behind it, but the whole, the same.
func TestScanOfSeal(t *testing.T) {
	source := rand.New(rand.NewSource(4))
	for round := range 60 {
		var payloads []string
		for range round % 9 {
			payloads = append(payloads, randomText(source, source.Intn(50)))
		}
		text := sealed(t, payloads...)
		wantScan(t, text, payloads, len(text))
		next := randomText(source, source.Intn(40))
		other := sealed(t, next)
		for cut := range len(other) {
			wantScan(t, text+other[:cut], payloads, len(text))
		}
		wantScan(t, text+other, append(payloads, next), len(text+other))
	}
}

// P2.2: the same at the edges: the greatest payload among others, and cut short behind them.
func TestScanOfSealAtEdges(t *testing.T) {
	payloads := edgePayloads()
	text := sealed(t, payloads...)
	wantScan(t, text, payloads, len(text))
	most := strings.Repeat("\x00", api.MaxFrame)
	other := sealed(t, most)
	for _, cut := range []int{1, 3, 4, 5, 7, 8, 9, api.MaxFrame, api.MaxFrame + 7} {
		wantScan(t, frameOf("a")+other[:cut], []string{"a"}, 9)
	}
	wantScan(t, frameOf("a")+other, []string{"a", most}, 9+len(other))
	wantScan(t, sealed(t, "", "", ""), []string{"", "", ""}, 24)
}

// wantSpoilt: with these bytes changed, the frame in the midst is none.
func wantSpoilt(t *testing.T, frame string, at int, change []byte) {
	t.Helper()
	wrong := []byte(frame)
	for i, b := range change {
		wrong[at+i] ^= b
	}
	ahead := frameOf("ahead")
	text := ahead + string(wrong) + ahead
	if payloads, end := Scan(text); len(payloads) != 1 || payloads[0] != "ahead" || end != len(ahead) {
		t.Fatalf("changed at %d by % x: %d payloads, %d", at, change, len(payloads), end)
	}
	wantNone(t, text, len(ahead))
	wantNone(t, string(wrong), 0)
}

// P2.3: a frame whose payload differs within four neighbouring bytes is none; and so is one whose sum differs.
func TestSpoiltFrames(t *testing.T) {
	source := rand.New(rand.NewSource(5))
	for _, payload := range []string{"", "a", "ab", "abc", "abcd", "abcdefghij", strings.Repeat("\x00", 20), strings.Repeat("\xff", 20), randomText(source, 70)} {
		frame := frameOf(payload)
		for _, piece := range []struct{ from, to int }{{4, 8}, {8, len(frame)}} {
			for at := piece.from; at < piece.to; at++ {
				for size := 1; size <= min(4, piece.to-at); size++ {
					for range 40 {
						change := []byte(randomText(source, size))
						change[0] |= 1 << source.Intn(8) // so that something differs
						wantSpoilt(t, frame, at, change)
					}
				}
			}
		}
	}
}

// P2.3: each single bit of a frame counts, and each value of each byte of payload and sum.
func TestSpoiltBits(t *testing.T) {
	for _, payload := range []string{"", "x", "bits of all bytes"} {
		frame := frameOf(payload)
		for at := range len(frame) {
			for bit := range 8 {
				wantSpoilt(t, frame, at, []byte{1 << bit})
			}
		}
		for at := 4; at < len(frame); at++ {
			for b := 1; b < 256; b++ {
				wantSpoilt(t, frame, at, []byte{byte(b)})
			}
		}
	}
}

// P2.3: at the greatest length too, at both ends of the payload and in its midst.
func TestSpoiltGreatestFrame(t *testing.T) {
	frame := frameOf(randomText(rand.New(rand.NewSource(6)), api.MaxFrame))
	for _, at := range []int{4, 8, 9, 40000, len(frame) - 4} {
		for _, change := range []string{"\x01\x00\x00\x00", "\x00\x00\x00\x80", "\xff\xff\xff\xff", "\x20\x83\xb8\xed", "\xed\xb8\x83\x20"} {
			wantSpoilt(t, frame, at, []byte(change))
		}
	}
}

// R1: no bytes make a call panic, and what is told as frames seals to the beginning that was read.
func TestAnyBytes(t *testing.T) {
	source := rand.New(rand.NewSource(7))
	good := frameOf("good") + frameOf("") + frameOf("better")
	for range 3000 {
		text := []byte(good)
		for range source.Intn(3) {
			text[source.Intn(len(text))] = byte(source.Intn(256))
		}
		text = text[:source.Intn(len(text)+1)]
		payloads, end := Scan(string(text))
		if end > len(text) || sealed(t, payloads...) != string(text[:end]) {
			t.Fatalf("% x: %q, %d", text, payloads, end)
		}
		wantNone(t, string(text), end)
	}
}

// R4, R5: the same answers again, and lists that are handed in stay as they were, their spare memory too.
func TestNothingChangedNothingKept(t *testing.T) {
	list := make([]string, 3, 6)
	copy(list, []string{"one", "", "three"})
	spare := list[:6]
	spare[5] = "spare"
	kept := slices.Clone(spare)
	sum, text := Sum(list...), sealed(t, list...)
	Seal(append(list, strings.Repeat("l", api.MaxFrame+1))...)
	spare[3] = ""
	if !slices.Equal(spare, kept) {
		t.Errorf("%q", spare)
	}
	if Sum(list...) != sum || sealed(t, list...) != text {
		t.Error("other answers to the same calls")
	}
	first, _ := Scan(text)
	first[0] = "changed"
	wantScan(t, text, []string{"one", "", "three"}, len(text))
}

// R5: payloads are new memory, not pieces of the text.
func TestPayloadsAreNewMemory(t *testing.T) {
	text := frameOf("payload") + frameOf("other")
	payloads, _ := Scan(text)
	payload, _, _ := First(text, 0)
	from := uintptr(unsafe.Pointer(unsafe.StringData(text)))
	for _, p := range append(payloads, payload) {
		at := uintptr(unsafe.Pointer(unsafe.StringData(p)))
		if at >= from && at < from+uintptr(len(text)) {
			t.Errorf("%q stands within the text", p)
		}
	}
}
