package pack

import (
	"encoding/binary"
	"math"
	"math/rand"
	"slices"
	"strings"
	"testing"

	"tarmac/api"
)

// edgeNums: the numbers at which another byte is needed, their neighbours, and the ends.
func edgeNums() []uint64 {
	list := []uint64{0, 1, 2, 127, 128, 300, math.MaxInt64, 1 << 63, math.MaxUint64 - 1, math.MaxUint64}
	for bits := groupBits; bits < 64; bits += groupBits {
		list = append(list, 1<<bits-1, 1<<bits, 1<<bits+1)
	}
	slices.Sort(list)
	return slices.Compact(list)
}

// edgeInts: as edgeNums, on both sides of 0.
func edgeInts() []int {
	list := []int{math.MinInt, math.MinInt + 1, math.MaxInt - 1, math.MaxInt}
	for _, n := range edgeNums() {
		if n < math.MaxInt64 {
			list = append(list, int(n), -int(n), -int(n)-1)
		}
	}
	slices.Sort(list)
	return slices.Compact(list)
}

func edgeTexts() []string {
	return []string{"", "\x00", "a", "ab", "\xff\x80", strings.Repeat("x", 127), strings.Repeat("y", 128), strings.Repeat("z", 70000)}
}

// cutNums: what ends too early to be a number's bytes.
func cutNums() []string {
	return []string{"", "\x80", "\xff", "\x80\x80", strings.Repeat("\xff", 9), strings.Repeat("\x80", 9)}
}

// wrongNums: what isn't a number's bytes, whatever follows.
func wrongNums() []string {
	nines := strings.Repeat("\xff", 9)
	return []string{
		"\x80\x00", "\x81\x00", "\xff\x00", "\x80\x80\x00", "\xff\xff\x00\x01", nines + "\x00", // more than are enough
		nines + "\x02", nines + "\x03", nines + "\x7f", nines + "\xff", nines + "\x81", // above 2^64 - 1
		nines + "\x81\x00", nines + "\xff\x01", nines + "\x80\x01", strings.Repeat("\x80", 10) + "\x01", strings.Repeat("\xff", 40),
	}
}

func numBytes(n uint64) string { return string(binary.AppendUvarint(nil, n)) }

func intBytes(n int) string { return string(binary.AppendVarint(nil, int64(n))) }

func textBytes(s string) string { return numBytes(uint64(len(s))) + s }

// P1.1: the chapter's examples.
func TestExamples(t *testing.T) {
	for _, c := range []struct{ got, want string }{
		{Nums(0, 1, 127, 128, 300), "\x00\x01\x7f\x80\x01\xac\x02"},
		{Ints(0, -1, 1, -64), "\x00\x01\x02\x7f"},
		{Texts("", "ab"), "\x00\x02ab"},
		{Nums(math.MaxUint64), "\xff\xff\xff\xff\xff\xff\xff\xff\xff\x01"},
		{Ints(math.MinInt), "\xff\xff\xff\xff\xff\xff\xff\xff\xff\x01"},
		{Ints(math.MaxInt), "\xfe\xff\xff\xff\xff\xff\xff\xff\xff\x01"},
	} {
		if c.got != c.want {
			t.Errorf("% x, not % x", c.got, c.want)
		}
	}
	r := Read("\xff\xff\xff\xff\xff\xff\xff\xff\xff\x01")
	if n, err := r.Num(); n != math.MaxUint64 || err != api.OK || !r.Done() {
		t.Error(n, err)
	}
}

// P1.1: an empty list, as nothing and as a list without elements, puts nothing.
func TestEmptyLists(t *testing.T) {
	if Nums() != "" || Ints() != "" || Texts() != "" || Nums([]uint64{}...) != "" || Ints([]int{}...) != "" || Texts([]string{}...) != "" {
		t.Error("an empty list has bytes")
	}
	w := New()
	if w.Len() != 0 || w.Bytes() != "" {
		t.Error("a new writer isn't empty")
	}
	w.Num(5)
	w.Num()
	w.Int()
	w.Text()
	w.Num([]uint64{}...)
	if w.Len() != 1 || w.Bytes() != "\x05" {
		t.Errorf("% x", w.Bytes())
	}
}

// P1.1: every edge has the bytes that the chapter tells, one by one and in a list.
func TestBytesOfEdges(t *testing.T) {
	var all string
	for _, n := range edgeNums() {
		all += numBytes(n)
		if Nums(n) != numBytes(n) {
			t.Errorf("%d: % x", n, Nums(n))
		}
	}
	if Nums(edgeNums()...) != all {
		t.Error("numbers in a list")
	}
	all = ""
	for _, n := range edgeInts() {
		all += intBytes(n)
		if Ints(n) != intBytes(n) {
			t.Errorf("%d: % x", n, Ints(n))
		}
	}
	if Ints(edgeInts()...) != all {
		t.Error("whole numbers in a list")
	}
	all = ""
	for _, s := range edgeTexts() {
		all += textBytes(s)
		if Texts(s) != textBytes(s) {
			t.Errorf("text of %d bytes", len(s))
		}
	}
	if Texts(edgeTexts()...) != all {
		t.Error("texts in a list")
	}
}

// P1.1: the writer tells what was put behind each call, and goes on; what it told before stays.
func TestWriterGoesOn(t *testing.T) {
	w := New()
	var want string
	var told, wanted []string
	step := func(more string) {
		want += more
		if w.Bytes() != want || w.Len() != len(want) || w.Bytes() != want {
			t.Fatalf("% x (%d), not % x", w.Bytes(), w.Len(), want)
		}
		told, wanted = append(told, w.Bytes()), append(wanted, want)
	}
	for _, n := range edgeNums() {
		w.Num(n, 7)
		step(numBytes(n) + "\x07")
	}
	for _, n := range edgeInts() {
		w.Int(n, -1)
		step(intBytes(n) + "\x01")
	}
	for _, s := range edgeTexts() {
		w.Text(s, "q")
		step(textBytes(s) + "\x01q")
	}
	if !slices.Equal(told, wanted) {
		t.Error("what was told has changed")
	}
}

// P1.1 with R5 and R6: lists stay as they are, a list that changes later changes nothing, writers and readers are apart.
func TestApart(t *testing.T) {
	nums, ints, texts := []uint64{300, 1}, []int{-300, 1}, []string{"ab", "c"}
	w, other := New(), New()
	w.Num(nums...)
	w.Int(ints...)
	w.Text(texts...)
	if !slices.Equal(nums, []uint64{300, 1}) || !slices.Equal(ints, []int{-300, 1}) || !slices.Equal(texts, []string{"ab", "c"}) {
		t.Error("a list was changed")
	}
	nums[0], ints[0], texts[0] = 9, 9, "zz"
	other.Num(9)
	if want := numBytes(300) + "\x01" + intBytes(-300) + "\x02\x02ab\x01c"; w.Bytes() != want || other.Bytes() != "\x09" {
		t.Errorf("% x, % x", w.Bytes(), other.Bytes())
	}
	r, s := Read("\x05\x06"), Read("\x05\x06")
	r.Num()
	if r.Left() != 1 || s.Left() != 2 {
		t.Error("readers hang together")
	}
}

// stays: each of the three calls that is asked for answers ErrPack and nothing beside it, and the reader stays.
func stays(t *testing.T, r *Reader, num, text bool) {
	t.Helper()
	left := r.Left()
	for range 2 {
		if num {
			if n, err := r.Num(); n != 0 || err != api.ErrPack {
				t.Errorf("Num: %d %d", n, err)
			}
			if n, err := r.Int(); n != 0 || err != api.ErrPack {
				t.Errorf("Int: %d %d", n, err)
			}
		}
		if text {
			if s, err := r.Text(); s != "" || err != api.ErrPack {
				t.Errorf("Text: %q %d", s, err)
			}
		}
		if r.Left() != left || r.Done() != (left == 0) {
			t.Errorf("left %d of %d", r.Left(), left)
		}
	}
}

// P1.1: where no number's bytes stand, at the beginning or behind others, all three calls answer ErrPack.
func TestWrongNumbers(t *testing.T) {
	for _, s := range slices.Concat(cutNums(), wrongNums()) {
		stays(t, Read(s), true, true)
		r := Read("\x07" + s)
		if n, err := r.Num(); n != 7 || err != api.OK || r.Left() != len(s) {
			t.Errorf("% x: %d %d", s, n, err)
		}
		stays(t, r, true, true)
	}
	for _, s := range wrongNums() {
		stays(t, Read(s+strings.Repeat("x", 300)), true, true)
	}
}

// P1.1: a text whose length is more than there are bytes is none, but its length can still be read as a number.
func TestWrongTexts(t *testing.T) {
	for _, c := range []struct {
		length uint64
		rest   string
	}{
		{1, ""}, {3, "a"}, {3, "ab"}, {128, strings.Repeat("x", 127)}, {1 << 31, "ab"}, {1 << 32, "ab"},
		{math.MaxInt64 - 1, "ab"}, {math.MaxInt64, "ab"}, {1 << 63, "ab"}, {1<<63 + 2, "ab"},
		{math.MaxUint64 - 9, "ab"}, {math.MaxUint64, ""}, {math.MaxUint64, strings.Repeat("x", 20)},
	} {
		r := Read("\x01q" + numBytes(c.length) + c.rest)
		if s, err := r.Text(); s != "q" || err != api.OK {
			t.Errorf("%q %d", s, err)
		}
		stays(t, r, false, true)
		if n, err := r.Num(); n != c.length || err != api.OK || r.Left() != len(c.rest) {
			t.Errorf("%d: %d %d", c.length, n, err)
		}
	}
	r := Read("\x02abc")
	if s, err := r.Text(); s != "ab" || err != api.OK || r.Left() != 1 || r.Done() {
		t.Errorf("%q %d", s, err)
	}
}

// P1.1: a refused call of one kind leaves the bytes to a call of another.
func TestReadOnBehindRefusal(t *testing.T) {
	r := Read("\x03\x01\x02")
	stays(t, r, false, true)
	if n, err := r.Int(); n != -2 || err != api.OK || r.Left() != 2 {
		t.Error(n, err)
	}
	if s, err := r.Text(); s != "\x02" || err != api.OK || r.Left() != 0 || !r.Done() {
		t.Errorf("%q %d", s, err)
	}
	stays(t, r, true, true)
}

// item is one thing that is put: a number, a whole number or a text.
type item struct {
	kind int
	num  uint64
	int  int
	text string
}

func (x item) put(w *Writer) {
	switch x.kind {
	case 0:
		w.Num(x.num)
	case 1:
		w.Int(x.int)
	default:
		w.Text(x.text)
	}
}

// readItem reads a thing of the kind.
func readItem(r *Reader, kind int) (item, api.Errno) {
	x := item{kind: kind}
	var err api.Errno
	switch kind {
	case 0:
		x.num, err = r.Num()
	case 1:
		x.int, err = r.Int()
	default:
		x.text, err = r.Text()
	}
	return x, err
}

// someItem: numbers of all lengths, so that few are as long as the longest.
func someItem(chance *rand.Rand) item {
	n := chance.Uint64() >> chance.Intn(64)
	switch chance.Intn(3) {
	case 0:
		return item{kind: 0, num: n}
	case 1:
		return item{kind: 1, int: int(n) * (1 - 2*chance.Intn(2))}
	}
	text := make([]byte, chance.Intn(200))
	chance.Read(text)
	return item{kind: 2, text: string(text)}
}

// P1.2: what was put is read again in the same order, and then the reader is done.
func TestPutAndRead(t *testing.T) {
	chance := rand.New(rand.NewSource(1))
	for range 500 {
		w := New()
		list := make([]item, chance.Intn(30))
		for i := range list {
			list[i] = someItem(chance)
			list[i].put(w)
		}
		r := Read(w.Bytes())
		if r.Left() != w.Len() {
			t.Fatal(r.Left(), w.Len())
		}
		for _, x := range list {
			if r.Done() {
				t.Fatal("done too early")
			}
			if got, err := readItem(r, x.kind); err != api.OK || got != x {
				t.Fatalf("%#v, not %#v: %d", got, x, err)
			}
		}
		if !r.Done() || r.Left() != 0 {
			t.Fatal("not done")
		}
	}
}

// P1.2: the edges, put as lists.
func TestPutAndReadEdges(t *testing.T) {
	r := Read(Nums(edgeNums()...) + Ints(edgeInts()...) + Texts(edgeTexts()...))
	for _, want := range edgeNums() {
		if n, err := r.Num(); n != want || err != api.OK {
			t.Fatal(n, want, err)
		}
	}
	for _, want := range edgeInts() {
		if n, err := r.Int(); n != want || err != api.OK {
			t.Fatal(n, want, err)
		}
	}
	for _, want := range edgeTexts() {
		if s, err := r.Text(); s != want || err != api.OK {
			t.Fatal(len(s), len(want), err)
		}
	}
	if !r.Done() {
		t.Error("not done")
	}
}

// putAgain: what a reader of the text takes has, put again, the bytes that the reader went over.
func putAgain(t *testing.T, text string, kind int) {
	t.Helper()
	r := Read(text)
	x, err := readItem(r, kind)
	if err != api.OK {
		return
	}
	w := New()
	x.put(w)
	if w.Bytes() != text[:len(text)-r.Left()] {
		t.Fatalf("% x: put again % x", text, w.Bytes())
	}
}

// P1.2: all texts of up to two bytes, and longer ones in which the bits that matter are frequent.
func TestReadAndPutAgain(t *testing.T) {
	for kind := range 3 {
		putAgain(t, "", kind)
		for a := range 256 {
			putAgain(t, string([]byte{byte(a)}), kind)
			for b := range 256 {
				putAgain(t, string([]byte{byte(a), byte(b)}), kind)
			}
		}
	}
	chance := rand.New(rand.NewSource(2))
	common := []byte{0x00, 0x01, 0x02, 0x7f, 0x80, 0x81, 0xfe, 0xff}
	for range 200000 {
		text := make([]byte, chance.Intn(13))
		for i := range text {
			text[i] = common[chance.Intn(len(common))]
			if i < 9 && chance.Intn(2) == 0 {
				text[i] |= 0x80
			}
		}
		putAgain(t, string(text), chance.Intn(3))
	}
}

// P1.3: no strict beginning of a number's bytes is one, and what follows them doesn't count.
func TestBeginnings(t *testing.T) {
	for _, n := range edgeNums() {
		text := Nums(n)
		for end := range len(text) {
			stays(t, Read(text[:end]), true, true)
		}
		for _, behind := range []string{"", "\x00", "\x80", "\xff"} {
			r := Read(text + behind)
			if got, err := r.Num(); got != n || err != api.OK || r.Left() != len(behind) {
				t.Errorf("%d, not %d: %d", got, n, err)
			}
		}
	}
}

// P1.3: unlike numbers have unlike bytes, as numbers and as whole numbers.
func TestUnlike(t *testing.T) {
	nums, ints := edgeNums(), edgeInts()
	for n := range 70000 {
		nums, ints = append(nums, uint64(n)), append(ints, n-35000)
	}
	seen := map[string]uint64{}
	for _, n := range nums {
		if m, ok := seen[Nums(n)]; ok && m != n {
			t.Fatal(n, m)
		}
		seen[Nums(n)] = n
	}
	whole := map[string]int{}
	for _, n := range ints {
		if m, ok := whole[Ints(n)]; ok && m != n {
			t.Fatal(n, m)
		}
		whole[Ints(n)] = n
	}
}
