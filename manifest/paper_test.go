package manifest

import (
	"encoding/binary"
	"hash/crc32"
	"math"
	"math/rand"
	"slices"
	"testing"

	"tarmac/api"
)

// The calls on paper: bytes by the library's own writers, versions by going through lists again and again.

func paperNumber(n uint64) string { return string(binary.AppendUvarint(nil, n)) }

func paperBytes(e api.Edit) string {
	text := binary.AppendUvarint(nil, uint64(len(e.Add)))
	for _, file := range e.Add {
		text = binary.AppendVarint(binary.AppendVarint(text, int64(file.Level)), int64(file.N))
	}
	text = binary.AppendUvarint(text, uint64(len(e.Del)))
	for _, n := range slices.Concat(e.Del, []int{e.Wal, e.Next, e.Seq}) {
		text = binary.AppendVarint(text, int64(n))
	}
	return string(text)
}

func paperRight(e api.Edit) bool {
	for _, file := range e.Add {
		if file.Level != 0 && file.Level != 1 || file.N <= 0 {
			return false
		}
	}
	for _, n := range e.Del {
		if n <= 0 {
			return false
		}
	}
	return min(e.Wal, e.Next, e.Seq) >= 0
}

// paperEdit: the right edit of these bytes, if there is one. It reads what a more generous reader takes, and asks whether it is written so.
func paperEdit(text string) (api.Edit, bool) {
	rest, bad := []byte(text), false
	number := func() uint64 {
		n, size := binary.Uvarint(rest)
		bad = bad || size <= 0
		rest = rest[max(size, 0):]
		return n
	}
	whole := func() int {
		n, size := binary.Varint(rest)
		bad = bad || size <= 0
		rest = rest[max(size, 0):]
		return int(n)
	}
	var e api.Edit
	for n := number(); n > 0 && !bad; n-- {
		level := whole()
		e.Add = append(e.Add, api.File{Level: level, N: whole()})
	}
	for n := number(); n > 0 && !bad; n-- {
		e.Del = append(e.Del, whole())
	}
	e.Wal = whole()
	e.Next = whole()
	e.Seq = whole()
	return e, !bad && paperBytes(e) == text && paperRight(e)
}

// times: how often the number is that of one of the files.
func times(files []api.File, n int) int {
	count := 0
	for _, file := range files {
		if file.N == n {
			count++
		}
	}
	return count
}

func paperFits(v api.Version, e api.Edit) bool {
	if !paperRight(e) || e.Next < v.Next || e.Seq < v.Seq {
		return false
	}
	for i, n := range e.Del {
		if times(v.Files, n) == 0 || slices.Contains(e.Del[:i], n) {
			return false
		}
	}
	for i, file := range e.Add {
		if times(v.Files, file.N) > 0 && !slices.Contains(e.Del, file.N) || times(e.Add[:i], file.N) > 0 || file.N >= e.Next {
			return false
		}
	}
	return true
}

func paperStep(v api.Version, e api.Edit) api.Version {
	w := api.Version{Wal: e.Wal, Next: e.Next, Seq: e.Seq}
	for _, file := range v.Files {
		if !slices.Contains(e.Del, file.N) {
			w.Files = append(w.Files, file)
		}
	}
	w.Files = append(w.Files, e.Add...)
	return w
}

// paperOrdered puts each file ahead of the first one that is greater.
func paperOrdered(files []api.File) []api.File {
	var ordered []api.File
	for _, file := range files {
		at := 0
		for at < len(ordered) && (ordered[at].Level < file.Level || ordered[at].Level == file.Level && ordered[at].N < file.N) {
			at++
		}
		ordered = slices.Insert(ordered, at, file)
	}
	return ordered
}

func paperApply(v api.Version, edits ...api.Edit) (api.Version, api.Errno) {
	for _, e := range edits {
		if !paperFits(v, e) {
			return api.Version{}, api.ErrEdit
		}
		v = paperStep(v, e)
	}
	v.Files = paperOrdered(v.Files)
	return v, api.OK
}

// paperApplied: what edits lead to that can be applied.
func paperApplied(v api.Version, edits ...api.Edit) api.Version {
	w, err := paperApply(v, edits...)
	if err != api.OK {
		panic("these can't be applied")
	}
	return w
}

// paperFiles: the version of one edit that only adds files, each level's rising.
func paperFiles(e api.Edit) api.Version {
	v := api.Version{Wal: e.Wal, Next: e.Next, Seq: e.Seq}
	for level := range 2 {
		for _, file := range e.Add {
			if file.Level == level {
				v.Files = append(v.Files, file)
			}
		}
	}
	return v
}

// frameOf: a payload's frame, of any length.
func frameOf(payload string) string {
	head := binary.BigEndian.AppendUint32(nil, uint32(len(payload)))
	sum := crc32.ChecksumIEEE(append(slices.Clone(head), payload...))
	return string(binary.BigEndian.AppendUint32(head, sum)) + payload
}

func framesOf(edits ...api.Edit) string {
	text := ""
	for _, e := range edits {
		text += frameOf(paperBytes(e))
	}
	return text
}

// paperRead: a frame is one if its payload's frame is what stands there.
func paperRead(text string) (api.Version, int) {
	v, at := api.Version{}, 0
	for len(text)-at >= 8 {
		size := uint64(binary.BigEndian.Uint32([]byte(text[at:])))
		if size > api.MaxFrame || size > uint64(len(text)-at-8) {
			break
		}
		behind := at + 8 + int(size)
		e, ok := paperEdit(text[at+8 : behind])
		if frameOf(text[at+8:behind]) != text[at:behind] || !ok || !paperFits(v, e) {
			break
		}
		v, at = paperStep(v, e), behind
	}
	v.Files = paperOrdered(v.Files)
	return v, at
}

// drawNumber: small ones mostly, those at which the bytes grow, both ends.
func drawNumber(r *rand.Rand) int {
	if r.Intn(4) == 0 {
		return []int{math.MinInt, -65, -64, -1, 0, 1, 63, 64, 8191, 8192, 1 << 40, math.MaxInt - 1, math.MaxInt}[r.Intn(13)]
	}
	return r.Intn(12) - 1
}

// drawAnyEdit: an edit of any numbers, right or not.
func drawAnyEdit(r *rand.Rand) api.Edit {
	e := api.Edit{Wal: drawNumber(r), Next: drawNumber(r), Seq: drawNumber(r)}
	for range r.Intn(4) {
		e.Add = append(e.Add, api.File{Level: r.Intn(2), N: drawNumber(r)})
	}
	for range r.Intn(4) {
		e.Del = append(e.Del, drawNumber(r))
	}
	if len(e.Add) > 0 && r.Intn(8) == 0 {
		e.Add[r.Intn(len(e.Add))].Level = drawNumber(r)
	}
	return e
}

func magnitude(n int) int {
	if n < 0 {
		return ^n
	}
	return n
}

// drawRightEdit: one of numbers in their ranges, that can seldom be applied.
func drawRightEdit(r *rand.Rand) api.Edit {
	e := drawAnyEdit(r)
	e.Wal, e.Next, e.Seq = magnitude(e.Wal), magnitude(e.Next), magnitude(e.Seq)
	for i := range e.Add {
		e.Add[i] = api.File{Level: r.Intn(2), N: max(1, magnitude(e.Add[i].N))}
	}
	for i := range e.Del {
		e.Del[i] = max(1, magnitude(e.Del[i]))
	}
	return e
}

// drawNear: an edit that can be applied to the version, or misses that by one thing.
func drawNear(r *rand.Rand, v api.Version) api.Edit {
	e := api.Edit{Wal: r.Intn(20), Next: max(0, v.Next) + r.Intn(4), Seq: max(0, v.Seq) + r.Intn(3)}
	for _, file := range v.Files {
		if r.Intn(3) == 0 && file.N > 0 && !slices.Contains(e.Del, file.N) {
			e.Del = append(e.Del, file.N)
		}
	}
	for n := 1; n < min(e.Next, 40); n++ {
		if r.Intn(4) == 0 && (times(v.Files, n) == 0 || slices.Contains(e.Del, n)) {
			e.Add = append(e.Add, api.File{Level: r.Intn(2), N: n})
		}
	}
	r.Shuffle(len(e.Add), func(i, j int) { e.Add[i], e.Add[j] = e.Add[j], e.Add[i] })
	r.Shuffle(len(e.Del), func(i, j int) { e.Del[i], e.Del[j] = e.Del[j], e.Del[i] })
	return e
}

// spoil changes one thing of an edit, so that it often can't be applied any more.
func spoil(r *rand.Rand, e api.Edit) api.Edit {
	n := r.Intn(40)
	switch r.Intn(9) {
	case 0:
		e.Next = max(0, e.Next-1-r.Intn(5))
	case 1:
		e.Seq = max(0, e.Seq-1-r.Intn(3))
	case 2:
		e.Del = append(e.Del, n)
	case 3:
		e.Add = append(e.Add, api.File{Level: r.Intn(2), N: n})
	case 4:
		e.Add = append(e.Add, api.File{Level: r.Intn(2), N: e.Next})
	case 5:
		e.Del = append(e.Del, e.Del...)
	case 6:
		e.Add = append(e.Add, e.Add...)
	case 7:
		e.Del = nil
	case 8:
		e.Wal = -1
	}
	return e
}

// drawRow: edits from the version on, most of which can be applied where they stand.
func drawRow(r *rand.Rand, v api.Version, wrong int) []api.Edit {
	var edits []api.Edit
	for range r.Intn(7) {
		e := drawNear(r, v)
		if r.Intn(100) < wrong {
			e = spoil(r, e)
		}
		edits = append(edits, e)
		if paperFits(v, e) {
			v = paperStep(v, e)
		}
	}
	return edits
}

// drawVersion: one that no edits led to: files in any order, some of one number, some of odd levels and numbers.
func drawVersion(r *rand.Rand) api.Version {
	v := api.Version{Wal: drawNumber(r), Next: r.Intn(8) - 3, Seq: r.Intn(8) - 3}
	for range r.Intn(8) {
		file := api.File{Level: r.Intn(4) - 1, N: r.Intn(12)}
		if r.Intn(8) == 0 {
			file = api.File{Level: drawNumber(r), N: drawNumber(r)}
		}
		v.Files = append(v.Files, file)
	}
	return v
}

// P11.1, P11.2: drawn edits have the bytes that they have on paper, and these are read as the edit.
func TestDrawnBytes(t *testing.T) {
	r := rand.New(rand.NewSource(111))
	right := 0
	for range 20000 {
		e := drawAnyEdit(r)
		if r.Intn(2) == 0 {
			e = drawRightEdit(r)
		}
		if paperRight(e) {
			right++
			wantBytes(t, e, paperBytes(e))
		} else {
			wantNoBytes(t, e)
			wantNoEdit(t, paperBytes(e))
		}
	}
	if right < 8000 || right > 16000 {
		t.Errorf("%d right edits: this test tries too little", right)
	}
}

// wantAsOnPaper: the text is an edit's bytes just if it is so on paper; P11.2: what it is read as has these bytes.
func wantAsOnPaper(t *testing.T, text string) bool {
	t.Helper()
	want, ok := paperEdit(text)
	if !ok {
		wantNoEdit(t, text)
		return false
	}
	wantBytes(t, want, text)
	return true
}

// P11.1, P11.2: all texts of up to eight bytes out of some.
func TestShortTexts(t *testing.T) {
	found := 0
	var walk func(text string)
	walk = func(text string) {
		if wantAsOnPaper(t, text) {
			found++
		}
		if len(text) < 8 {
			for _, b := range []byte{0, 1, 2, 0x80} {
				walk(text + string([]byte{b}))
			}
		}
	}
	walk("")
	if found < 100 {
		t.Errorf("%d edits: this test tries too little", found)
	}
}

// P11.1, P11.2: the bytes of drawn edits with a byte changed, left out or put between.
func TestSpoiltBytes(t *testing.T) {
	r := rand.New(rand.NewSource(112))
	found, tried := 0, 0
	for range 3000 {
		text := paperBytes(drawRightEdit(r))
		at, b := r.Intn(len(text)), byte(r.Intn(256))
		if r.Intn(2) == 0 {
			b = []byte{0, 1, 2, 3, 0x7f, 0x80, 0x81, 0xff}[r.Intn(8)]
		}
		for _, spoilt := range []string{text[:at] + string([]byte{b}) + text[at+1:], text[:at] + text[at+1:], text[:at] + string([]byte{b}) + text[at:]} {
			tried++
			if wantAsOnPaper(t, spoilt) {
				found++
			}
		}
	}
	if found < 500 || found > tried-500 {
		t.Errorf("%d edits of %d: this test tries too little", found, tried)
	}
}

func wantLikePaper(t *testing.T, v api.Version, edits ...api.Edit) api.Errno {
	t.Helper()
	want, err := paperApply(v, edits...)
	if err != api.OK {
		wantRefused(t, v, edits...)
	} else {
		wantApplied(t, want, v, edits...)
	}
	return err
}

// P11.1: drawn edits on drawn versions, those that edits led to and others, as on paper.
func TestDrawnApply(t *testing.T) {
	r := rand.New(rand.NewSource(113))
	count := map[api.Errno]int{}
	for range 20000 {
		v := drawVersion(r)
		if r.Intn(2) == 0 {
			v = paperApplied(api.Version{}, drawRow(r, api.Version{}, 0)...)
		}
		count[wantLikePaper(t, v, drawRow(r, v, 20)...)]++
		wantLikePaper(t, v, drawAnyEdit(r))
		wantLikePaper(t, v, drawRightEdit(r))
	}
	if len(count) != 2 || count[api.OK] < 5000 || count[api.ErrEdit] < 5000 {
		t.Errorf("%v: this test tries too little", count)
	}
}

// P11.3: drawn rows of edits, cut at each place: one by one is all at once; a refused one leaves nothing behind.
func TestDrawnCuts(t *testing.T) {
	r := rand.New(rand.NewSource(114))
	for range 4000 {
		v := api.Version{}
		if r.Intn(2) == 0 {
			v = drawVersion(r)
		}
		edits := drawRow(r, v, 5)
		all, err := Apply(v, edits...)
		for i := range len(edits) + 1 {
			first, firstErr := Apply(v, edits[:i]...)
			second, secondErr := Apply(first, edits[i:]...)
			if firstErr != api.OK {
				second, secondErr = first, firstErr
			}
			if secondErr != err || !sameVersion(second, all) {
				t.Fatalf("Apply of %s to %s, cut at %d: error %d, %s, not %d, %s", brief(edits), brief(v), i, secondErr, brief(second), err, brief(all))
			}
		}
		one, oneErr := v, api.OK
		one.Files = paperOrdered(v.Files)
		for _, e := range edits {
			next, err := Apply(one, e)
			if err != api.OK {
				oneErr = err
				break
			}
			one = next
		}
		if oneErr != err || err == api.OK && !sameVersion(one, all) {
			t.Fatalf("Apply of %s to %s one by one: error %d, %s", brief(edits), brief(v), oneErr, brief(one))
		}
		wrong := spoil(r, drawNear(r, one))
		if _, err := Apply(one, wrong); err == api.ErrEdit {
			good := drawNear(r, one)
			wantLikePaper(t, one, good)
		}
	}
}

// P11.2: Apply(zero, Whole(v)) is v for every version that edits led to out of nothing; of others it is what the paper says.
func TestDrawnWholes(t *testing.T) {
	r := rand.New(rand.NewSource(115))
	files := 0
	for range 5000 {
		v, err := Apply(api.Version{}, drawRow(r, api.Version{}, 0)...)
		if err != api.OK {
			t.Fatal("these edits can be applied")
		}
		wantApplied(t, v, api.Version{}, Whole(v))
		files += len(v.Files)
		text, err := Encode(Whole(v))
		if err != api.OK {
			t.Errorf("Encode of Whole of %s: error %d", brief(v), err)
		}
		wantRead(t, frameOf(text), v, 8+len(text))
		other := drawVersion(r)
		if e := Whole(other); !sameEdit(e, api.Edit{Add: other.Files, Wal: other.Wal, Next: other.Next, Seq: other.Seq}) {
			t.Errorf("Whole of %s: %s", brief(other), brief(e))
		}
		wantLikePaper(t, api.Version{}, Whole(other))
	}
	if files < 5000 {
		t.Errorf("%d files: this test tries too little", files)
	}
}

// P11.1: drawn rows of frames, some with edits that can't be applied, some cut or spoilt.
func TestDrawnReads(t *testing.T) {
	r := rand.New(rand.NewSource(116))
	whole, less := 0, 0
	for range 5000 {
		text := framesOf(drawRow(r, api.Version{}, 5)...)
		if r.Intn(4) == 0 {
			text += frameOf(string([]byte{byte(r.Intn(4)), 0, 0, 0, 0}))
		}
		if r.Intn(3) == 0 && text != "" {
			text = text[:r.Intn(len(text))]
		}
		if r.Intn(3) == 0 && text != "" {
			at := r.Intn(len(text))
			text = text[:at] + string([]byte{byte(r.Intn(256))}) + text[at+1:]
		}
		want, end := paperRead(text)
		wantRead(t, text, want, end)
		if end == len(text) {
			whole++
		} else {
			less++
		}
	}
	if whole < 1000 || less < 1000 {
		t.Errorf("%d whole, %d not: this test tries too little", whole, less)
	}
}

// R4: the same call has the same answer, again and again: nothing hangs on a map's order.
func TestSameAgain(t *testing.T) {
	r := rand.New(rand.NewSource(117))
	for range 200 {
		v := drawVersion(r)
		edits := drawRow(r, v, 10)
		first, err := Apply(v, edits...)
		text := framesOf(drawRow(r, api.Version{}, 10)...)
		read, end := Read(text)
		for range 20 {
			if again, errAgain := Apply(v, edits...); errAgain != err || !sameVersion(again, first) {
				t.Fatalf("Apply of %s to %s: %s, then %s", brief(edits), brief(v), brief(first), brief(again))
			}
			wantRead(t, text, read, end)
		}
	}
}
