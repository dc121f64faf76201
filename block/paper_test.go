package block

import (
	"encoding/binary"
	"encoding/hex"
	"math"
	"math/rand"
	"slices"
	"sort"
	"strings"
	"testing"

	"tarmac/api"
)

// paperShared tries every length, from the longest on.
func paperShared(a, b string) int {
	n := len(b)
	for !strings.HasPrefix(a, b[:n]) {
		n--
	}
	return n
}

// paperLess: the order of versions.
func paperLess(a, b api.Entry) bool {
	if c := strings.Compare(a.Key, b.Key); c != 0 {
		return c < 0
	}
	return a.Seq > b.Seq
}

// paperBlock is a block on paper: it says the chapter's words by the library's numbers. False: the list has none.
func paperBlock(list []api.Entry) (string, bool) {
	text := binary.AppendUvarint(nil, uint64(len(list)))
	before := ""
	for i, version := range list {
		if i > 0 && !paperLess(list[i-1], version) || version.Dead && len(version.Value) > 0 {
			return "", false
		}
		share := paperShared(before, version.Key)
		text = binary.AppendUvarint(text, uint64(share))
		text = binary.AppendUvarint(text, uint64(len(version.Key)-share))
		text = append(text, version.Key[share:]...)
		text = binary.AppendVarint(text, int64(version.Seq))
		if version.Dead {
			text = append(text, 1)
		} else {
			text = append(text, 0)
			text = binary.AppendUvarint(text, uint64(len(version.Value)))
			text = append(text, version.Value...)
		}
		before = version.Key
	}
	return string(text), true
}

// guess reads a text in the shape of a block, whatever its numbers and their order; what it finds may have another block.
type guess struct {
	rest []byte
	bad  bool
}

func (g *guess) number() uint64 {
	n, size := binary.Uvarint(g.rest)
	g.step(size)
	return n
}

func (g *guess) whole() int {
	n, size := binary.Varint(g.rest)
	g.step(size)
	return int(n)
}

func (g *guess) step(size int) {
	if size <= 0 {
		g.bad = true
		return
	}
	g.rest = g.rest[size:]
}

func (g *guess) text() string {
	n := g.number()
	if g.bad || n > uint64(len(g.rest)) {
		g.bad = true
		return ""
	}
	text := string(g.rest[:n])
	g.rest = g.rest[n:]
	return text
}

// paperRead: the versions whose block on paper the text is; false, if there are none.
func paperRead(text string) ([]api.Entry, bool) {
	g := &guess{rest: []byte(text)}
	var list []api.Entry
	before := ""
	for left := g.number(); left > 0 && !g.bad; left-- {
		share := g.number()
		if share > uint64(len(before)) {
			return nil, false
		}
		version := api.Entry{Key: before[:share] + g.text(), Seq: g.whole()}
		version.Dead = g.number() != 0
		if !version.Dead {
			version.Value = g.text()
		}
		list = append(list, version)
		before = version.Key
	}
	again, ok := paperBlock(list)
	if g.bad || !ok || again != text {
		return nil, false
	}
	return list, true
}

// asPaper holds Decode against the paper, and what was decoded against the text. It answers whether the text is a block.
func asPaper(t *testing.T, text string) bool {
	t.Helper()
	list, ok := paperRead(text)
	if !ok {
		refusedText(t, text)
		return false
	}
	got, err := Decode(text)
	if err != api.OK || !slices.Equal(got, list) {
		t.Fatalf("Decode of %s: %d, %s, not %s", brief(hex.EncodeToString([]byte(text))), err, brief(got), brief(list))
	}
	if again, err := Encode(got...); err != api.OK || again != text {
		t.Fatalf("Encode of what %s holds: %d, %s", brief(hex.EncodeToString([]byte(text))), err, brief(hex.EncodeToString([]byte(again))))
	}
	return true
}

// drawText: a text of few unlike bytes, so that keys share beginnings, mostly short, seldom above 127 bytes.
func drawText(r *rand.Rand) string {
	size := r.Intn(5)
	if r.Intn(20) == 0 {
		size = 100 + r.Intn(60)
	}
	text := make([]byte, size)
	for i := range text {
		text[i] = "\x00ab\xff"[r.Intn(4)]
	}
	return string(text)
}

func drawSeq(r *rand.Rand) int {
	switch r.Intn(10) {
	case 0:
		return []int{math.MinInt, math.MinInt + 1, math.MaxInt - 1, math.MaxInt}[r.Intn(4)]
	case 1:
		return r.Intn(1<<40) - 1<<39
	}
	return r.Intn(7) - 3
}

func drawVersion(r *rand.Rand) api.Entry {
	if r.Intn(3) == 0 {
		return gone(drawText(r), drawSeq(r))
	}
	return live(drawText(r), drawSeq(r), drawText(r))
}

// drawList: versions that rise strictly; some keys begin with the one drawn before.
func drawList(r *rand.Rand) []api.Entry {
	var list []api.Entry
	for range r.Intn(12) {
		version := drawVersion(r)
		if len(list) > 0 && r.Intn(3) == 0 {
			version.Key = list[len(list)-1].Key + version.Key
		}
		list = append(list, version)
	}
	sort.SliceStable(list, func(i, j int) bool { return paperLess(list[i], list[j]) })
	return slices.CompactFunc(list, func(a, b api.Entry) bool { return a.Key == b.Key && a.Seq == b.Seq })
}

// blockOf: the list's block, asked for and held against the paper.
func blockOf(t *testing.T, list []api.Entry) string {
	t.Helper()
	text, ok := paperBlock(list)
	if !ok {
		t.Fatalf("the paper has no block of %s", brief(list))
	}
	want(t, list, text)
	return text
}

// P8.1, P8.2: lists by chance, the same in each run: their bytes are those on paper, and they come back.
func TestLists(t *testing.T) {
	r := rand.New(rand.NewSource(8))
	for range 5000 {
		blockOf(t, drawList(r))
	}
}

// P8.1: two versions of a list in each other's place, one twice, or a dead one with a value: the paper says whether there is a block.
func TestSpoiltLists(t *testing.T) {
	r := rand.New(rand.NewSource(81))
	refused := 0
	for range 5000 {
		list := append(drawList(r), live("zzz", 1, ""))
		i, j := r.Intn(len(list)), r.Intn(len(list))
		switch r.Intn(4) {
		case 0:
			list[i], list[j] = list[j], list[i]
		case 1:
			list[i] = list[j]
		case 2:
			list[i] = drawVersion(r)
		case 3:
			list[i].Dead = true
		}
		if text, ok := paperBlock(list); ok {
			want(t, list, text)
		} else {
			refusedList(t, list)
			refused++
		}
	}
	if refused < 1000 || refused > 4000 {
		t.Errorf("%d of 5000 were refused: this test tries too little", refused)
	}
}

// P8.3: no strict beginning of a block is one, and nothing longer that begins with it.
func TestBeginningsAndMore(t *testing.T) {
	r := rand.New(rand.NewSource(83))
	for range 300 {
		text := blockOf(t, drawList(r))
		for n := range len(text) {
			refusedText(t, text[:n])
		}
		for b := range 256 {
			refusedText(t, text+string([]byte{byte(b)}))
		}
		for range 20 {
			refusedText(t, text+blockOf(t, drawList(r)))
			refusedText(t, text+drawText(r)+"\x00")
		}
		refusedText(t, text+text)
	}
}

// P8.2: of all short texts of some bytes, those are blocks that the paper says, and Encode makes them again.
func TestEveryShortText(t *testing.T) {
	const letters = "\x00\x01\x02\x03a\x80"
	taken := 0
	var grow func(text string)
	grow = func(text string) {
		if asPaper(t, text) {
			taken++
		}
		if len(text) == 7 {
			return
		}
		for i := range len(letters) {
			grow(text + letters[i:i+1])
		}
	}
	grow("")
	if taken < 100 {
		t.Errorf("only %d of them are blocks: this test tries too little", taken)
	}
}

// spoil changes a byte, puts one in, or takes one out.
func spoil(r *rand.Rand, text string) string {
	i := r.Intn(len(text))
	drawn := string([]byte{byte(r.Intn(256))})
	if r.Intn(2) == 0 {
		drawn = string([]byte{text[i] + byte(r.Intn(3)) - 1})
	}
	switch r.Intn(3) {
	case 0:
		return text[:i] + drawn + text[i+1:]
	case 1:
		return text[:i] + drawn + text[i:]
	}
	return text[:i] + text[i+1:]
}

// P8.2: of spoilt blocks those are taken that the paper says, and Encode makes them again.
func TestSpoiltBlocks(t *testing.T) {
	r := rand.New(rand.NewSource(82))
	taken := 0
	const all = 60000
	for range all / 20 {
		text := blockOf(t, drawList(r))
		for range 20 {
			other := spoil(r, text)
			if r.Intn(3) == 0 && other != "" {
				other = spoil(r, other)
			}
			if asPaper(t, other) {
				taken++
			}
		}
	}
	if taken < all/50 || taken > all*49/50 {
		t.Errorf("%d of %d were taken: this test tries too little", taken, all)
	}
}

// P8.2: unlike lists have unlike blocks.
func TestUnlikeLists(t *testing.T) {
	r := rand.New(rand.NewSource(84))
	seen := map[string][]api.Entry{}
	for range 5000 {
		list := drawList(r)
		text, _ := Encode(list...)
		if other, ok := seen[text]; ok && !slices.Equal(other, list) {
			t.Fatalf("%s and %s have one block", brief(list), brief(other))
		}
		seen[text] = list
	}
}

// P8.1: Shared of all pairs of short texts, and of drawn ones, as on paper.
func TestSharedOfPairs(t *testing.T) {
	texts := []string{""}
	for i := 0; len(texts[i]) < 4; i++ {
		for _, letter := range []string{"\x00", "a", "\xff"} {
			texts = append(texts, texts[i]+letter)
		}
	}
	r := rand.New(rand.NewSource(85))
	for range 100 {
		text := drawText(r)
		texts = append(texts, text, text+drawText(r))
	}
	for _, a := range texts {
		for _, b := range texts {
			if got := Shared(a, b); got != paperShared(a, b) {
				t.Fatalf("Shared of %s and %s: %d", brief(a), brief(b), got)
			}
		}
	}
}

// R4: the same calls give the same answers, again and whatever was asked between.
func TestSameCallsSameAnswers(t *testing.T) {
	r := rand.New(rand.NewSource(86))
	var lists [][]api.Entry
	var texts []string
	for range 200 {
		list := drawList(r)
		lists, texts = append(lists, list), append(texts, blockOf(t, list))
	}
	for _, i := range r.Perm(len(lists)) {
		refusedText(t, texts[i]+"\x00")
		refusedList(t, append(slices.Clone(lists[i]), api.Entry{Dead: true, Value: "x"}))
		want(t, lists[i], texts[i])
	}
}
