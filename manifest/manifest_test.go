package manifest

import (
	"crypto/sha256"
	"encoding/hex"
	"fmt"
	"math"
	"slices"
	"strconv"
	"strings"
	"testing"

	"tarmac/api"
)

// add: files, each as its level and its number.
func add(list ...int) []api.File {
	var files []api.File
	for i := 0; i < len(list); i += 2 {
		files = append(files, api.File{Level: list[i], N: list[i+1]})
	}
	return files
}

func edit(files []api.File, del []int, wal, next, seq int) api.Edit {
	return api.Edit{Add: files, Del: del, Wal: wal, Next: next, Seq: seq}
}

func version(files []api.File, wal, next, seq int) api.Version {
	return api.Version{Files: files, Wal: wal, Next: next, Seq: seq}
}

// bytes: those of a text of hex digits, with spaces between them.
func bytes(digits string) string {
	b, err := hex.DecodeString(strings.ReplaceAll(digits, " ", ""))
	if err != nil {
		panic(err)
	}
	return string(b)
}

// sameEdit, sameVersion: a list that is nil and one without elements are the same (R3).
func sameEdit(a, b api.Edit) bool {
	return slices.Equal(a.Add, b.Add) && slices.Equal(a.Del, b.Del) && a.Wal == b.Wal && a.Next == b.Next && a.Seq == b.Seq
}

func sameVersion(a, b api.Version) bool {
	return slices.Equal(a.Files, b.Files) && a.Wal == b.Wal && a.Next == b.Next && a.Seq == b.Seq
}

// brief: the beginning of a thing, for a message.
func brief(thing any) string {
	text := fmt.Sprintf("%+v", thing)
	return text[:min(len(text), 400)]
}

// wantBytes asks for the edit's bytes, and for the edit of these.
func wantBytes(t *testing.T, e api.Edit, text string) {
	t.Helper()
	if got, err := Encode(e); err != api.OK || got != text {
		t.Errorf("Encode of %s: error %d, %s", brief(e), err, brief(hex.EncodeToString([]byte(got))))
	}
	if got, err := Decode(text); err != api.OK || !sameEdit(got, e) {
		t.Errorf("Decode of %s: error %d, %s, not %s", brief(hex.EncodeToString([]byte(text))), err, brief(got), brief(e))
	}
}

// wantNoBytes: the edit isn't right, and beside the error there is nothing (R2).
func wantNoBytes(t *testing.T, e api.Edit) {
	t.Helper()
	if got, err := Encode(e); err != api.ErrEdit || got != "" {
		t.Errorf("Encode of %s: error %d, %x", brief(e), err, got)
	}
}

// wantNoEdit: the text is no edit's bytes, and beside the error there is nothing (R2).
func wantNoEdit(t *testing.T, text string) {
	t.Helper()
	if got, err := Decode(text); err != api.ErrEdit || !sameEdit(got, api.Edit{}) {
		t.Errorf("Decode of %s: error %d, %s", brief(hex.EncodeToString([]byte(text))), err, brief(got))
	}
}

func wantApplied(t *testing.T, want api.Version, v api.Version, edits ...api.Edit) {
	t.Helper()
	if got, err := Apply(v, edits...); err != api.OK || !sameVersion(got, want) {
		t.Errorf("Apply of %s to %s: error %d, %s, not %s", brief(edits), brief(v), err, brief(got), brief(want))
	}
}

// wantRefused: ErrEdit, and beside it nothing (R2).
func wantRefused(t *testing.T, v api.Version, edits ...api.Edit) {
	t.Helper()
	if got, err := Apply(v, edits...); err != api.ErrEdit || !sameVersion(got, api.Version{}) {
		t.Errorf("Apply of %s to %s: error %d, %s", brief(edits), brief(v), err, brief(got))
	}
}

func wantRead(t *testing.T, text string, want api.Version, end int) {
	t.Helper()
	if got, at := Read(text); at != end || !sameVersion(got, want) {
		t.Errorf("Read of %s: %s, %d, not %s, %d", brief(hex.EncodeToString([]byte(text))), brief(got), at, brief(want), end)
	}
}

// P11.1: the chapter's examples.
func TestExamples(t *testing.T) {
	first := edit(add(0, 1), nil, 2, 3, 4)
	v := version(add(0, 1), 2, 3, 4)
	wantApplied(t, v, api.Version{}, first)
	second := edit(add(1, 3), []int{1}, 2, 4, 4)
	w := version(add(1, 3), 2, 4, 4)
	wantApplied(t, w, v, second)
	wantApplied(t, w, api.Version{}, first, second)
	wantRefused(t, w, edit(nil, []int{1}, 2, 4, 4))
	if Table(12) != "t12" {
		t.Error(Table(12))
	}
	wantName(t, "m1", 'm', 1)
	for _, name := range []string{"t0", "t01", "x1", "t", "CURRENT"} {
		wantNoName(t, name)
	}
}

// P11.1, P11.2: bytes that a program in another language gave.
func TestBytes(t *testing.T) {
	const most = math.MaxInt
	for _, c := range []struct {
		e    api.Edit
		text string
	}{
		{api.Edit{}, "00 00 00 00 00"},
		{edit(nil, nil, 1, 1, 1), "00 00 02 02 02"},
		{edit(nil, nil, 1, 2, 3), "00 00 02 04 06"},
		{edit(nil, nil, most, most, most), "00 00 feffffffffffffffff01 feffffffffffffffff01 feffffffffffffffff01"},
		{edit(add(0, 1), nil, 2, 3, 4), "01 0002 00 04 06 08"},
		{edit(add(1, 3), []int{1}, 2, 4, 4), "01 0206 01 02 04 08 08"},
		{edit(nil, []int{7}, 0, 0, 0), "00 01 0e 00 00 00"},
		{edit(nil, []int{1, 64, 8192}, 63, 64, 8191), "00 03 02 8001 808001 7e 8001 fe7f"},
		{edit(add(1, most, 0, most-1, 0, 1, 1, 64), []int{most, 1, 63}, 0, most, 0),
			"04 02feffffffffffffffff01 00fcffffffffffffffff01 0002 028001 03 feffffffffffffffff01 02 7e 00 feffffffffffffffff01 00"},
		// An edit that can't be applied anywhere can be right: its numbers are in their ranges.
		{edit(add(1, 1, 1, 1), []int{2, 2}, 5, 0, 1), "02 0202 0202 02 04 04 0a 00 02"},
		{edit(add(0, 63, 0, 64, 1, 8191, 1, 8192), nil, 127, 128, 16384), "04 007e 008001 02fe7f 02808001 00 fe01 8002 808002"},
	} {
		wantBytes(t, c.e, bytes(c.text))
	}
}

// P11.1, R3: lists that are nil and lists without elements have the same bytes.
func TestEmptyLists(t *testing.T) {
	wantBytes(t, edit([]api.File{}, []int{}, 0, 0, 0), bytes("00 00 00 00 00"))
	wantApplied(t, api.Version{}, version([]api.File{}, 0, 0, 0), edit([]api.File{}, []int{}, 0, 0, 0))
	wantApplied(t, api.Version{}, api.Version{}, []api.Edit{}...)
}

func wantDigest(t *testing.T, e api.Edit, size int, digest string) {
	t.Helper()
	text, err := Encode(e)
	if got := fmt.Sprintf("%x", sha256.Sum256([]byte(text))); err != api.OK || len(text) != size || got != digest {
		t.Errorf("Encode of %s: error %d, %d bytes, digest %s", brief(e), err, len(text), got)
	}
	wantBytes(t, e, text)
}

// P11.1, P11.2: edits of many files: how many bytes, and their digest, as a program in another language gave.
func TestManyFiles(t *testing.T) {
	var files []api.File
	for i := range 1000 {
		files = append(files, api.File{Level: i % 2, N: 1 + i*i})
	}
	var del []int
	for i := range 777 {
		del = append(del, 1+3*i)
	}
	wantDigest(t, edit(files, del, 123456, 7890123, 45678901), 5449, "ee2eeb634c15bbc2c76d3298721b31aeba57cbcf8aa78ddaf90f21f2181f1891")
	for _, c := range []struct {
		n, size int
		digest  string
	}{
		{127, 386, "aea5f344956b745122f82d431f1395f003bf4c7f1429f951f9c8da49a7ad8df1"},
		{128, 391, "3dc83eaa97a0916008be48b602009607e13f9a43fd9c0dd663aba1b2951b4fe9"},
		{129, 394, "5139e3284d325c38f7d8c92dc3408fd95f7f2006221aab361f5fab21bd9af1df"},
		{16383, 49156, "af2765074171e694b4a0c5440edbbb9aa4f85a9a3e5e8c882c4c68f57d546249"},
		{16384, 49161, "be7d12ad8240cf3e5db0181e67c702dedf375095302161e03ad00001902b7493"},
	} {
		wantDigest(t, edit(slices.Repeat(add(1, 5), c.n), slices.Repeat([]int{9}, c.n), 1, 2, 3), c.size, c.digest)
	}
}

// wrongEdits: none of them is right, each for one number alone, in each place where it can stand.
func wrongEdits() []api.Edit {
	var list []api.Edit
	for _, n := range []int{-1, -2, -64, math.MinInt + 1, math.MinInt} {
		list = append(list, edit(nil, nil, n, 0, 0), edit(nil, nil, 0, n, 0), edit(nil, nil, 0, 0, n), edit(add(n, 1), nil, 1, 9, 1))
		list = append(list, edit(add(0, 1, n, 2), []int{1}, 1, 9, 1), edit(add(n, 1, 0, 2), nil, 1, 9, 1))
	}
	for _, level := range []int{2, 3, 63, 64, math.MaxInt} {
		list = append(list, edit(add(level, 1), nil, 1, 9, 1), edit(add(0, 1, level, 2), nil, 1, 9, 1), edit(add(level, 1, 1, 2, 0, 3), nil, 1, 9, 1))
	}
	for _, n := range []int{0, -1, -2, math.MinInt} {
		for level := range 2 {
			list = append(list, edit(add(level, n), nil, 1, 9, 1), edit(add(1, 1, level, n), nil, 1, 9, 1), edit(add(level, n, 0, 2, 0, 3), nil, 1, 9, 1))
		}
		list = append(list, edit(nil, []int{n}, 1, 9, 1), edit(nil, []int{1, 2, n}, 1, 9, 1), edit(add(1, 3), []int{n, 1}, 1, 9, 1))
	}
	return list
}

// P11.1, R2: an edit that isn't right has no bytes, and what would be its bytes are none.
func TestWrongEdits(t *testing.T) {
	v := version(add(0, 1, 0, 2, 1, -1, 0, 0), 0, 0, 0)
	for _, e := range wrongEdits() {
		wantNoBytes(t, e)
		wantNoEdit(t, paperBytes(e))
		wantRefused(t, v, e)
		wantRefused(t, version(add(0, e.Next), e.Wal, e.Next, e.Seq), e)
	}
}

// P11.1: the least and the greatest number in each field.
func TestLimitsOfFields(t *testing.T) {
	for _, n := range []int{0, 1, 2, 63, 64, 8191, 8192, math.MaxInt - 1, math.MaxInt} {
		for _, e := range []api.Edit{edit(nil, nil, n, 0, 0), edit(nil, nil, 0, n, 0), edit(nil, nil, 0, 0, n)} {
			wantBytes(t, e, paperBytes(e))
			wantApplied(t, version(nil, e.Wal, e.Next, e.Seq), api.Version{}, e)
		}
		if n > 0 {
			for _, e := range []api.Edit{edit(add(0, n), nil, 0, 0, 0), edit(add(1, n), nil, 0, 0, 0), edit(nil, []int{n}, 0, 0, 0)} {
				wantBytes(t, e, paperBytes(e))
			}
		}
	}
}

// someEdits: right ones of all kinds.
func someEdits() []api.Edit {
	return []api.Edit{
		{},
		edit(nil, nil, 1, 200, 30000),
		edit(add(0, 1), nil, 2, 3, 4),
		edit(nil, []int{300}, 2, 3, 4),
		edit(add(1, 3), []int{1}, 2, 4, 4),
		edit(add(0, 100, 1, 200, 0, 1), []int{64, 1, 8192}, 63, 1<<40, 8191),
		edit(slices.Repeat(add(0, 1), 130), slices.Repeat([]int{1}, 129), math.MaxInt, math.MaxInt, math.MaxInt),
	}
}

// P11.1: no beginning of an edit's bytes but the whole is an edit's, and none with bytes behind it.
func TestCutAndLongBytes(t *testing.T) {
	wantNoEdit(t, "")
	for _, e := range someEdits() {
		text := paperBytes(e)
		wantBytes(t, e, text)
		for i := range text {
			wantNoEdit(t, text[:i])
		}
		for b := range 256 {
			wantNoEdit(t, text+string([]byte{byte(b)}))
		}
		wantNoEdit(t, text+text)
		wantNoEdit(t, " "+text)
	}
}

// P11.1: a number with more bytes than are enough, or above 2^64 - 1, is none, wherever it stands.
func TestLongNumbers(t *testing.T) {
	for _, fields := range [][]string{
		{"00", "00", "00", "00", "00"},
		{"01", "00", "02", "00", "04", "06", "08"},
		{"00", "02", "02", "04", "04", "06", "08"},
		{"02", "00", "02", "02", "04", "01", "06", "04", "08", "0a"},
	} {
		if _, err := Decode(bytes(strings.Join(fields, ""))); err != api.OK {
			t.Errorf("%v: error %d", fields, err)
		}
		for i, field := range fields {
			b, _ := strconv.ParseUint(field, 16, 8)
			for _, long := range []string{fmt.Sprintf("%02x00", b|0x80), fmt.Sprintf("%02x8000", b|0x80), fmt.Sprintf("%02x80808080808080808000", b|0x80), strings.Repeat("ff", 10), strings.Repeat("ff", 9) + "02", strings.Repeat("80", 9) + "02", strings.Repeat("80", 10) + "01"} {
				spoilt := slices.Clone(fields)
				spoilt[i] = long
				wantNoEdit(t, bytes(strings.Join(spoilt, "")))
			}
		}
	}
}

// P11.1: a count above what is left, also one as great as a number can be, ends where the bytes end.
func TestGreatCounts(t *testing.T) {
	for _, count := range []uint64{1, 2, 3, 4, 5, 6, 7, 127, 128, 1 << 20, 1<<31 - 1, 1 << 32, 1<<62 + 1, 1<<63 - 1, 1 << 63, 1<<63 + 1, math.MaxUint64 - 1, math.MaxUint64} {
		n := paperNumber(count)
		wantNoEdit(t, n)
		wantNoEdit(t, n+bytes("00 00 00"))
		wantNoEdit(t, bytes("00")+n)
		wantNoEdit(t, bytes("00")+n+bytes("00 00 00"))
		wantNoEdit(t, n+bytes("00 02 00 00 00"))
		if count != 1 {
			wantNoEdit(t, n+bytes("00 02 00 04 06 08"))
			wantNoEdit(t, bytes("00")+n+bytes("02 04 06 08"))
			wantNoEdit(t, bytes("01 00 02")+n+bytes("02 04 06 08"))
		}
	}
	// A count below what stands there: what is left is too much, or stands for something else.
	wantNoEdit(t, bytes("00 00 02 00 04 06 08"))
	wantNoEdit(t, bytes("01 00 02 00 02 04 06 08"))
}

// P11.1: whole numbers below 0 in each field are no right edit's, though they can be read.
func TestNumbersBelowZero(t *testing.T) {
	wantBytes(t, edit(add(1, 1), []int{1}, 1, 1, 1), bytes("01 02 02 01 02 02 02 02"))
	for _, text := range []string{"01 01 02 01 02 02 02 02", "01 02 01 01 02 02 02 02", "01 02 02 01 01 02 02 02", "01 02 02 01 02 01 02 02", "01 02 02 01 02 02 01 02", "01 02 02 01 02 02 02 01", "01 04 02 01 02 02 02 02", "01 02 00 01 02 02 02 02", "01 02 02 01 00 02 02 02"} {
		wantNoEdit(t, bytes(text))
	}
}

// P11.1: no edit, one, several.
func TestApply(t *testing.T) {
	wantApplied(t, api.Version{}, api.Version{})
	wantApplied(t, api.Version{}, api.Version{}, api.Edit{})
	wantApplied(t, api.Version{}, api.Version{}, api.Edit{}, api.Edit{}, api.Edit{})
	v := version(add(0, 2, 0, 5, 1, 1), 6, 7, 8)
	wantApplied(t, v, v)
	wantApplied(t, version(v.Files, 0, 7, 8), v, edit(nil, nil, 0, 7, 8))
	wantApplied(t, version(v.Files, 9, 10, 11), v, edit(nil, nil, 9, 10, 11))
	wantApplied(t, version(add(0, 2, 0, 5, 0, 7, 1, 1, 1, 6), 6, 8, 9), v, edit(add(1, 6, 0, 7), nil, 6, 8, 9))
	wantApplied(t, version(add(0, 5), 6, 7, 8), v, edit(nil, []int{2, 1}, 6, 7, 8))
	wantApplied(t, version(add(1, 7), 6, 8, 8), v, edit(add(1, 7), []int{5, 1, 2}, 6, 8, 8))
	wantApplied(t, version(add(1, 7, 1, 9), 3, 10, 10), v,
		edit(add(1, 7), []int{5, 1, 2}, 6, 8, 8), edit(add(0, 8), nil, 6, 9, 9), edit(add(1, 9), []int{8}, 3, 10, 10))
	// A file may go and another one come with its number, in one edit and in two; it may come back too.
	wantApplied(t, version(add(0, 1, 0, 5, 1, 2), 6, 7, 8), v, edit(add(1, 2, 0, 1), []int{1, 2}, 6, 7, 8))
	wantApplied(t, v, v, edit(add(0, 2), []int{2}, 6, 7, 8))
	wantApplied(t, version(add(0, 5, 1, 1, 1, 2), 6, 7, 8), v, edit(nil, []int{2}, 6, 7, 8), edit(add(1, 2), nil, 6, 7, 8))
	wantApplied(t, version(add(0, 5, 1, 1), 6, 7, 8), v, edit(add(1, 2), []int{2}, 6, 7, 8), edit(nil, []int{2}, 6, 7, 8))
}

// P11.1: the numbers are the edit's, as great as an int can be too; Wal may fall, and be above Next.
func TestAppliedNumbers(t *testing.T) {
	const most = math.MaxInt
	wantApplied(t, version(nil, most, most, most), api.Version{}, edit(nil, nil, most, most, most))
	top := version(nil, most, most, most)
	wantApplied(t, top, top, edit(nil, nil, most, most, most))
	wantApplied(t, version(nil, 0, most, most), top, edit(nil, nil, 0, most, most))
	wantApplied(t, version(add(0, most-1), 5, most, most), top, edit(add(0, most-1), nil, 5, most, most))
	wantRefused(t, top, edit(add(0, most), nil, 5, most, most))
	wantRefused(t, top, edit(nil, nil, most, most-1, most))
	wantRefused(t, top, edit(nil, nil, most, most, most-1))
	wantApplied(t, version(nil, 9, 1, 0), version(nil, 3, 1, 0), edit(nil, nil, 9, 1, 0))
	wantApplied(t, version(nil, 1, 1, 0), version(nil, 3, 1, 0), edit(nil, nil, 1, 1, 0))
}

// P11.1, R2: each reason for ErrEdit, alone, beside what is just within its limit.
func TestRefusals(t *testing.T) {
	v := version(add(0, 2, 0, 5, 1, 1), 6, 7, 8)
	good := []api.Edit{
		edit(nil, nil, 0, 7, 8),
		edit(nil, []int{1}, 6, 7, 8),
		edit(nil, []int{2, 5}, 6, 7, 8),
		edit(add(0, 6), nil, 6, 7, 8),
		edit(add(1, 3, 0, 4), nil, 6, 7, 8),
		edit(add(0, 7), nil, 6, 8, 8),
		edit(add(0, 5), []int{5}, 6, 7, 8),
	}
	for _, e := range good {
		wantApplied(t, paperApplied(v, e), v, e)
	}
	wrong := []api.Edit{
		// In Del: a number that no file has; one twice.
		edit(nil, []int{3}, 6, 7, 8), edit(nil, []int{6}, 6, 7, 8), edit(nil, []int{7}, 6, 7, 8), edit(nil, []int{100}, 6, 7, 8), edit(nil, []int{math.MaxInt}, 6, 7, 8),
		edit(nil, []int{1, 3}, 6, 7, 8), edit(nil, []int{3, 1}, 6, 7, 8), edit(add(0, 3), []int{3}, 6, 7, 8), edit(add(0, 7), []int{7}, 6, 8, 8),
		edit(nil, []int{1, 1}, 6, 7, 8), edit(nil, []int{1, 2, 1}, 6, 7, 8), edit(nil, []int{5, 2, 2}, 6, 7, 8), edit(add(0, 5), []int{5, 5}, 6, 7, 8),
		// In Add: a number that a file has which doesn't go; one twice; one that isn't below Next.
		edit(add(0, 2), nil, 6, 7, 8), edit(add(1, 2), nil, 6, 7, 8), edit(add(0, 1), nil, 6, 7, 8), edit(add(1, 1), []int{2, 5}, 6, 7, 8), edit(add(0, 3, 1, 5), []int{1}, 6, 7, 8),
		edit(add(0, 3, 0, 3), nil, 6, 7, 8), edit(add(0, 3, 1, 3), nil, 6, 7, 8), edit(add(0, 3, 1, 4, 1, 3), nil, 6, 7, 8), edit(add(0, 5, 1, 5), []int{5}, 6, 7, 8),
		edit(add(0, 7), nil, 6, 7, 8), edit(add(0, 8), nil, 6, 7, 8), edit(add(0, 8), nil, 6, 8, 8), edit(add(0, 3, 0, 7), nil, 6, 7, 8), edit(add(1, 7, 1, 3), nil, 6, 7, 8), edit(add(0, math.MaxInt), nil, 6, math.MaxInt, 8),
		// Next and Seq below the version's.
		edit(nil, nil, 6, 6, 8), edit(nil, nil, 6, 0, 8), edit(nil, nil, 6, 7, 7), edit(nil, nil, 6, 7, 0), edit(nil, nil, 0, 6, 7),
		edit(add(0, 3), []int{1}, 6, 6, 8), edit(add(0, 3), []int{1}, 6, 7, 7),
		// Not right, and nothing else.
		edit(nil, nil, -1, 7, 8), edit(add(2, 3), nil, 6, 7, 8), edit(add(-1, 3), nil, 6, 7, 8), edit(add(0, 0), nil, 6, 7, 8), edit(add(0, -1), nil, 6, 7, 8), edit(nil, []int{0}, 6, 7, 8), edit(nil, []int{-1}, 6, 7, 8),
	}
	for _, e := range wrong {
		wantRefused(t, v, e)
		wantRefused(t, v, good[0], e)
		wantRefused(t, v, e, good[0])
		wantRefused(t, v, good[0], good[0], e, good[0])
		wantRefused(t, v, edit(add(0, 6), nil, 6, 7, 8), edit(nil, []int{6}, 6, 7, 8), e)
	}
}

// P11.1, P11.3: what went ahead counts: a number is free behind the edit that takes its file out, and taken behind the one that brings it.
func TestRefusedBehindOthers(t *testing.T) {
	come, more, away := edit(add(0, 1), nil, 0, 3, 0), edit(add(1, 1), nil, 0, 3, 0), edit(nil, []int{1}, 0, 3, 0)
	wantApplied(t, version(add(1, 1), 0, 3, 0), api.Version{}, come, away, more)
	wantRefused(t, api.Version{}, come, more)
	wantRefused(t, api.Version{}, come, come)
	wantRefused(t, api.Version{}, away, come)
	wantRefused(t, api.Version{}, come, away, away)
	wantRefused(t, api.Version{}, come, edit(nil, nil, 0, 2, 0))
	wantRefused(t, api.Version{}, edit(nil, nil, 0, 0, 2), edit(nil, nil, 0, 0, 1))
	wantRefused(t, api.Version{}, edit(nil, nil, 0, 0, 2), edit(nil, nil, 0, 0, 3), edit(nil, nil, 0, 0, 2))
}

// P11.1: Files is ordered by Level, then by N, whatever order the files came in.
func TestFilesInOrder(t *testing.T) {
	want := add(0, 3, 0, 9, 0, 10, 0, 100, 1, 1, 1, 2, 1, 11, 1, 20)
	falling := slices.Clone(want)
	slices.Reverse(falling)
	for i := range len(falling) + 1 {
		for j := range i + 1 {
			wantApplied(t, version(want, 0, 200, 0), version(falling[j:i], 0, 1, 0), edit(falling[:j], nil, 0, 200, 0), edit(falling[i:], nil, 0, 200, 0))
		}
	}
	wantApplied(t, version(want, 5, 1, 6), version(falling, 5, 1, 6))
	wantApplied(t, version(add(0, 3, 0, 10, 0, 12, 1, 2, 1, 5, 1, 9, 1, 20), 0, 200, 0), version(falling, 0, 1, 0), edit(add(1, 9, 0, 12, 1, 5), []int{9, 1, 100, 11}, 0, 200, 0))
}

// P11.1: a version that no edits led to: files in any order, levels and numbers of any kind, two files of one number.
func TestAnyVersion(t *testing.T) {
	const least, most = math.MinInt, math.MaxInt
	odd := add(7, 3, most, -1, 0, 0, least, most, -1, 3, 0, 3, 1, least, 0, 3, 2, -1)
	rising := add(least, most, -1, 3, 0, 0, 0, 3, 0, 3, 1, least, 2, -1, 7, 3, most, -1)
	v := version(odd, -5, -6, -7)
	wantApplied(t, version(rising, -5, -6, -7), v)
	wantApplied(t, version(rising, 0, 0, 0), v, api.Edit{})
	// All files of a number go with it, and it is free then; as long as one has it, it is taken.
	wantApplied(t, version(add(least, most, 0, 0, 1, least, 2, -1, most, -1), 1, 2, 3), v, edit(nil, []int{3}, 1, 2, 3))
	wantApplied(t, version(add(least, most, 0, 0, 1, least, 1, 3, 2, -1, most, -1), 1, 4, 3), v, edit(add(1, 3), []int{3}, 1, 4, 3))
	wantRefused(t, v, edit(add(1, 3), nil, 1, 4, 3))
	wantRefused(t, v, edit(nil, []int{3, 3}, 1, 4, 3))
	wantRefused(t, v, edit(nil, []int{3}, 1, 4, 3), edit(nil, []int{3}, 1, 4, 3))
	wantApplied(t, version(rising[1:], 1, 4, 3), v, edit(nil, []int{most}, 1, 4, 3))
	// Below 1 no number is named: these files stay.
	wantRefused(t, v, edit(nil, []int{-1}, 1, 4, 3))
	wantRefused(t, v, edit(nil, []int{0}, 1, 4, 3))
	// A file's number may be above the version's Next; only those that come must be below the edit's.
	wantApplied(t, version(add(0, 1, 0, 50), 0, 2, 0), version(add(0, 50), 0, 2, 0), edit(add(0, 1), nil, 0, 2, 0))
	wantApplied(t, version(nil, 0, 0, 0), version(nil, least, least, least), api.Edit{})
	wantRefused(t, version(nil, 0, 1, 0), api.Edit{})
	wantRefused(t, version(nil, 0, 0, 1), api.Edit{})
	wantApplied(t, version(nil, 0, 0, 0), version(nil, 1, 0, 0), api.Edit{})
}

// P11.1: Whole says of any version what it is.
func TestWhole(t *testing.T) {
	for _, v := range []api.Version{
		{},
		version(add(0, 2, 0, 5, 1, 1), 6, 7, 8),
		version(add(1, 9, 0, 5, 0, 2, 0, 5), -6, math.MinInt, math.MaxInt),
		version(add(-1, 0, 7, -7), 1, 2, 3),
	} {
		if got := Whole(v); !sameEdit(got, edit(v.Files, nil, v.Wal, v.Next, v.Seq)) {
			t.Errorf("Whole of %s: %s", brief(v), brief(got))
		}
	}
	// Of a version that no edits led to the edit may be one that can't be applied, or lead to another order of files.
	for _, v := range []api.Version{version(add(0, 1, 1, 1), 0, 2, 0), version(add(0, 2), 0, 2, 0), version(add(0, 0), 0, 2, 0), version(add(2, 1), 0, 2, 0), version(nil, -1, 2, 0), version(nil, 0, -1, 0), version(nil, 0, 2, -1)} {
		wantRefused(t, api.Version{}, Whole(v))
	}
	wantApplied(t, version(add(0, 1, 0, 5, 1, 3), 9, 6, 0), api.Version{}, Whole(version(add(1, 3, 0, 5, 0, 1), 9, 6, 0)))
}

// row: edits that can be applied one behind the other from nothing on.
func row() []api.Edit {
	return []api.Edit{
		edit(nil, nil, 1, 2, 0),
		edit(add(0, 2), nil, 3, 4, 5),
		edit(add(0, 4, 0, 5), nil, 6, 7, 9),
		edit(add(1, 7), []int{2, 4, 5}, 6, 8, 9),
		edit(add(0, 9, 1, 8), []int{7}, 10, 300, 20),
		api.Edit{Del: []int{8}, Wal: 10, Next: 300, Seq: 20},
	}
}

// P11.1: what several frames come to, cut off at each place.
func TestReadCutOff(t *testing.T) {
	wantRead(t, "", api.Version{}, 0)
	text, ends := framesOf(row()...), []int{0}
	versions := []api.Version{{}}
	for i := range row() {
		ends = append(ends, len(framesOf(row()[:i+1]...)))
		versions = append(versions, paperApplied(api.Version{}, row()[:i+1]...))
	}
	whole := 0
	for i := range len(text) + 1 {
		if whole+1 < len(ends) && i == ends[whole+1] {
			whole++
		}
		wantRead(t, text[:i], versions[whole], ends[whole])
	}
	if whole != len(row()) {
		t.Fatalf("%d frames", whole)
	}
}

// P11.1: a frame with any byte spoilt ends what is read, and what stands behind it isn't taken.
func TestReadSpoilt(t *testing.T) {
	text, first, second := framesOf(row()...), framesOf(row()[0]), framesOf(row()[:2]...)
	for i := range len(text) {
		for _, change := range []byte{0x01, 0x80, 0xff} {
			spoilt := []byte(text)
			spoilt[i] ^= change
			want, end := paperRead(string(spoilt))
			wantRead(t, string(spoilt), want, end)
			if i < len(first) && end != 0 || i >= len(first) && i < len(second) && end != len(first) {
				t.Errorf("byte %d spoilt: %d", i, end)
			}
		}
	}
}

// P11.1: a payload that is no edit's bytes, or an edit that can't be applied there, in any place; the place that is answered.
func TestReadWrongPayloads(t *testing.T) {
	wrong := []string{"", "\x00", bytes("00 00 00 00 00 00"), bytes("80 00 00 00 00 00"), bytes("00 00 01 ac02 30"), bytes("01 04 6e 00 02 ac02 30"), "no edit", strings.Repeat("\x00", api.MaxFrame)}
	for _, e := range wrongEdits() {
		wrong = append(wrong, paperBytes(e))
	}
	for i := range len(row()) + 1 {
		before, behind := framesOf(row()[:i]...), framesOf(row()[i:]...)
		v := paperApplied(api.Version{}, row()[:i]...)
		for _, payload := range wrong {
			wantRead(t, before+frameOf(payload)+behind, v, len(before))
		}
		for _, e := range []api.Edit{
			edit(nil, []int{1}, 0, 1000, 1000), edit(nil, []int{999}, 0, 1000, 1000), edit(add(0, 1000), nil, 0, 1000, 1000),
			edit(add(0, 600, 1, 600), nil, 0, 1000, 1000), edit(nil, []int{999, 999}, 0, 1000, 1000), edit(add(0, 999), []int{999}, 0, 1000, 1000),
		} {
			wantRead(t, before+framesOf(e)+behind, v, len(before))
		}
		if i > 0 {
			wantRead(t, before+framesOf(edit(nil, nil, v.Wal, v.Next-1, v.Seq))+behind, v, len(before))
		}
		if i > 1 {
			wantRead(t, before+framesOf(row()[1])+behind, v, len(before))
			wantRead(t, before+framesOf(edit(nil, nil, v.Wal, v.Next, v.Seq-1))+behind, v, len(before))
			wantRead(t, before+framesOf(edit(v.Files, nil, v.Wal, v.Next, v.Seq))+behind, v, len(before))
		}
	}
}

// P11.1: nothing that stands behind is taken for a frame, and nothing at the beginning is left out.
func TestReadAroundFrames(t *testing.T) {
	text := framesOf(row()...)
	v := paperApplied(api.Version{}, row()...)
	for _, tail := range []string{"\x00", "\x00\x00\x00\x00", "\x00\x00\x00\x05\x00\x00\x00\x00\x00\x00\x00\x00\x00", "\xff\xff\xff\xff\xff\xff\xff\xff\xff", "tail", text[:7]} {
		wantRead(t, text+tail, v, len(text))
		wantRead(t, tail+text, api.Version{}, 0)
	}
	wantRead(t, framesOf(Whole(v)), v, len(framesOf(Whole(v))))
}

// P11.1: an edit whose bytes just fill a frame, and one that has a byte more.
func TestReadFullFrame(t *testing.T) {
	// Each file has four bytes; Wal and Seq together have ten, or eleven.
	e := edit(nil, nil, 1<<48, 30000, 64)
	for n := 10000; len(e.Add) < 16380; n++ {
		e.Add = append(e.Add, api.File{Level: n % 2, N: n})
	}
	text, v := framesOf(e), paperFiles(e)
	if len(text) != 8+api.MaxFrame {
		t.Fatalf("%d bytes", len(text))
	}
	wantRead(t, text, v, len(text))
	more := framesOf(edit(nil, []int{10000}, e.Wal, e.Next, e.Seq))
	wantRead(t, text+more, version(v.Files[1:], v.Wal, v.Next, v.Seq), len(text+more))
	e.Wal = 1 << 55
	wantBytes(t, e, paperBytes(e))
	wantRead(t, framesOf(e)+more, api.Version{}, 0)
}

// P11.1: very long rows of edits, and edits of very many files.
func TestLongRows(t *testing.T) {
	const n = 100000
	var edits []api.Edit
	var text strings.Builder
	for i := 1; i <= n; i++ {
		e := edit(add(i%2, i), nil, i, i+1, i)
		edits = append(edits, e)
		text.WriteString(framesOf(e))
	}
	v := paperFiles(edit(nil, nil, n, n+1, n))
	for _, level := range []int{0, 1} {
		for i := 1; i <= n; i++ {
			if i%2 == level {
				v.Files = append(v.Files, api.File{Level: level, N: i})
			}
		}
	}
	wantApplied(t, v, api.Version{}, edits...)
	wantRead(t, text.String(), v, text.Len())
	wantApplied(t, v, api.Version{}, Whole(v))
	all := edit(nil, nil, 0, 2*n, n)
	moved := version(nil, 0, 2*n, n)
	for i := n; i >= 1; i-- {
		all.Del = append(all.Del, i)
		all.Add = append(all.Add, api.File{Level: 1, N: n/2 + i})
	}
	for i := 1; i <= n; i++ {
		moved.Files = append(moved.Files, api.File{Level: 1, N: n/2 + i})
	}
	wantApplied(t, moved, v, all)
	wantBytes(t, all, paperBytes(all))
	all.Del[0] = all.Del[n-1]
	wantRefused(t, v, all)
}

// fileNumbers: those at which the digits grow, and both ends.
func fileNumbers() []int {
	return []int{1, 2, 9, 10, 11, 12, 99, 100, 101, 999, 1000, 12345678, 1 << 32, 1<<53 + 1, math.MaxInt - 1, math.MaxInt}
}

// P11.1: the names, of numbers below 1 too.
func TestNames(t *testing.T) {
	for n, digits := range map[int]string{
		0: "0", 1: "1", 9: "9", 10: "10", 12: "12", 100: "100", 123456789: "123456789", math.MaxInt: "9223372036854775807",
		-1: "-1", -9: "-9", -10: "-10", math.MinInt: "-9223372036854775808",
	} {
		if Table(n) != "t"+digits || Log(n) != "w"+digits || List(n) != "m"+digits {
			t.Errorf("%s, %s, %s", Table(n), Log(n), List(n))
		}
		if n < 1 {
			wantNoName(t, Table(n))
			wantNoName(t, Log(n))
			wantNoName(t, List(n))
		}
	}
}

func wantName(t *testing.T, name string, letter byte, n int) {
	t.Helper()
	if gotLetter, gotN, ok := Parse(name); gotLetter != letter || gotN != n || !ok {
		t.Errorf("Parse of %.60q: %q, %d, %t", name, gotLetter, gotN, ok)
	}
}

// wantNoName: false, and beside it nothing (R2).
func wantNoName(t *testing.T, name string) {
	t.Helper()
	if letter, n, ok := Parse(name); letter != 0 || n != 0 || ok {
		t.Errorf("Parse of %.60q: %q, %d, %t", name, letter, n, ok)
	}
}

// P11.4: Parse undoes the names; unlike numbers and letters have unlike names.
func TestParseUndoesNames(t *testing.T) {
	numbers := fileNumbers()
	for n := 1; n <= 2000; n++ {
		numbers = append(numbers, n)
	}
	for bit := range 63 {
		numbers = append(numbers, 1<<bit, 1<<bit|1, math.MaxInt>>bit)
	}
	slices.Sort(numbers)
	numbers = slices.Compact(numbers)
	names := map[string]int{}
	for _, n := range numbers {
		wantName(t, Table(n), 't', n)
		wantName(t, Log(n), 'w', n)
		wantName(t, List(n), 'm', n)
		names[Table(n)]++
		names[Log(n)]++
		names[List(n)]++
	}
	if len(names) != 3*len(numbers) {
		t.Errorf("%d names of %d", len(names), 3*len(numbers))
	}
}

// P11.1, P11.4, R2: what is no name.
func TestNoNames(t *testing.T) {
	for _, name := range []string{
		"", "t", "w", "m", "1", "12", "CURRENT", "CURRENT1", "x1", "T1", "W1", "M1", "tt1", "tw1", "s1", "u1", "\x001", "\xff1", "é1", "ţ1", " t1", "-t1", "1t", "1t1",
		"t0", "t00", "t-0", "t+0", "t01", "t001", "t0x1", "t010", "t-1", "t+1", "t--1", "t 1", "t1 ", "t1\n", "t1\x00", "t\x001", "t1a", "ta1", "t1t", "t1t2", "t1.0", "t1.", "t.1", "t1e3", "t1_0", "t_1", "t0b1", "t0o7", "t0x", "t1,000", "t१", "t１", "t1１", "t²",
		"t9223372036854775808", "t9223372036854775809", "t9999999999999999999", "t10000000000000000000", "t18446744073709551615", "t18446744073709551616", "t18446744073709551617", "t36893488147419103233", "t" + strings.Repeat("9", 100), "t1" + strings.Repeat("0", 10000), "t" + strings.Repeat("0", 10000) + "1", "t-9223372036854775808", "t-9223372036854775809",
	} {
		wantNoName(t, name)
		if strings.HasPrefix(name, "t") {
			wantNoName(t, "w"+name[1:])
			wantNoName(t, "m"+name[1:])
		}
	}
	for b := range 256 {
		letter := string([]byte{byte(b)})
		if !strings.Contains("twm", letter) {
			wantNoName(t, letter+"1")
		}
		if letter < "0" || letter > "9" {
			wantNoName(t, "t1"+letter)
			wantNoName(t, "t1"+letter+"1")
		}
		if letter < "1" || letter > "9" {
			wantNoName(t, "t"+letter)
			wantNoName(t, "t"+letter+"1")
		}
		wantNoName(t, letter)
	}
	wantName(t, "t9223372036854775807", 't', math.MaxInt)
	wantName(t, "w9223372036854775806", 'w', math.MaxInt-1)
}

// spare: the list with memory behind its end.
func spare[T any](list []T, behind ...T) []T {
	return append(slices.Clip(list), behind...)[:len(list)]
}

// handedIn: a version and edits that can be applied to it and some that can't, their files in no order.
func handedIn() (api.Version, []api.Edit) {
	v := version(spare(add(1, 9, 0, 5, 0, 2, 1, 1), add(0, 77, 1, 78)...), 6, 10, 8)
	return v, spare([]api.Edit{
		edit(spare(add(1, 12, 0, 11), add(1, 99, 0, 98)...), spare([]int{9, 1}, 97, 96), 7, 13, 9),
		edit(spare(add(1, 9), add(1, 2)...), spare([]int{12, 5, 2}, 1), 7, 14, 9),
		edit(spare(add(0, 13), add(1, 3)...), spare([]int{11}, 9, 9), 7, 14, 9),
		edit(spare(add(0, 1, 0, 2, 0, 1), add(1, 3)...), spare([]int{13, 9, 13}, 9, 9), 7, 14, 9),
	}, edit(add(0, 3), []int{1}, 1, 1, 1))
}

// told: all of a version and edits, the spare memory too.
func told(v api.Version, edits []api.Edit) string {
	list := []string{fmt.Sprint(v.Files[:cap(v.Files)], v.Wal, v.Next, v.Seq)}
	for _, e := range edits[:cap(edits)] {
		list = append(list, fmt.Sprint(e.Add[:cap(e.Add)], e.Del[:cap(e.Del)], e.Wal, e.Next, e.Seq))
	}
	return strings.Join(list, " ")
}

// P11.3, R5: what is handed in stays as it was, its spare memory too, refused or not.
func TestHandedInStays(t *testing.T) {
	v, edits := handedIn()
	was := told(v, edits)
	for i := range len(edits) + 1 {
		_, err := Apply(v, edits[:i]...)
		if wrong := i == len(edits); wrong != (err == api.ErrEdit) {
			t.Errorf("Apply of %d: error %d", i, err)
		}
		Apply(v, edits[i:]...)
		Whole(v)
		for _, e := range edits {
			Encode(e)
		}
		if now := told(v, edits); now != was {
			t.Fatalf("behind Apply of %d: %s, not %s", i, now, was)
		}
	}
}

// fill writes over a list, its spare memory too.
func fill[T any](list []T, thing T) {
	for i := range list[:cap(list)] {
		list[:cap(list)][i] = thing
	}
}

// P11.1, R5: what is answered is new memory: nothing that the caller does to it is seen in what was handed in, nor in another answer, nor the other way round.
func TestAnswersAreNew(t *testing.T) {
	for n := range 4 {
		v, edits := handedIn()
		was := told(v, edits)
		first, _ := Apply(v, edits[:n]...)
		second, _ := Apply(v, edits[:n]...)
		whole, again := Whole(v), Whole(v)
		want, wantEdit := version(slices.Clone(second.Files), second.Wal, second.Next, second.Seq), edit(slices.Clone(v.Files), nil, v.Wal, v.Next, v.Seq)
		fill(first.Files, api.File{Level: 5, N: 5})
		fill(whole.Add, api.File{Level: 5, N: 5})
		if told(v, edits) != was || !sameVersion(second, want) || !sameEdit(again, wantEdit) {
			t.Errorf("Apply of %d and Whole share memory with what was handed in, or with another answer", n)
		}
		fill(v.Files, api.File{Level: 6, N: 6})
		for _, e := range edits {
			fill(e.Add, api.File{Level: 6, N: 6})
			fill(e.Del, 6)
		}
		if !sameVersion(second, want) || !sameEdit(again, wantEdit) {
			t.Errorf("Apply of %d and Whole keep what was handed in", n)
		}
	}
}

// P11.1, R5: each Decode and each Read answers memory of its own.
func TestReadAnswersAreNew(t *testing.T) {
	e := edit(add(0, 1, 1, 2, 0, 3), []int{4, 5, 6, 7, 8}, 9, 10, 11)
	first, _ := Decode(paperBytes(e))
	second, _ := Decode(paperBytes(e))
	fill(first.Add, api.File{Level: 5, N: 5})
	if !slices.Equal(first.Del, e.Del) {
		t.Error("the lists of one answer share memory")
	}
	fill(first.Del, 5)
	if !sameEdit(second, e) {
		t.Error("two answers share memory")
	}
	v, _ := Read(framesOf(row()[:3]...))
	w, _ := Read(framesOf(row()[:3]...))
	fill(v.Files, api.File{Level: 5, N: 5})
	if !sameVersion(w, paperApplied(api.Version{}, row()[:3]...)) {
		t.Error("two versions that were read share memory")
	}
}
