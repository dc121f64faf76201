package table

import (
	"encoding/binary"
	"encoding/hex"
	"hash/crc32"
	"hash/fnv"
	"math"
	"math/rand"
	"slices"
	"sort"
	"strings"
	"testing"

	"tarmac/api"
)

// A table on paper: it says the chapters' words by the library's numbers, sums and hashes, and by going through lists.

// paperLess: the order of versions.
func paperLess(a, b api.Entry) bool {
	if a.Key == b.Key {
		return b.Seq < a.Seq
	}
	return a.Key < b.Key
}

func paperRises(list []api.Entry) bool {
	for i, version := range list {
		if version.Dead && len(version.Value) > 0 || i > 0 && !paperLess(list[i-1], version) {
			return false
		}
	}
	return true
}

func paperNumber(n int) string { return string(binary.AppendUvarint(nil, uint64(n))) }

func paperText(text string) string { return paperNumber(len(text)) + text }

func paperBlock(list []api.Entry) string {
	text := paperNumber(len(list))
	before := ""
	for _, version := range list {
		share := len(version.Key)
		for !strings.HasPrefix(before, version.Key[:share]) {
			share--
		}
		text += paperNumber(share) + paperText(version.Key[share:]) + string(binary.AppendVarint(nil, int64(version.Seq)))
		if version.Dead {
			text += "\x01"
		} else {
			text += "\x00" + paperText(version.Value)
		}
		before = version.Key
	}
	return text
}

// paperFrames: the payloads' frames, whatever their length.
func paperFrames(payloads []string) string {
	var text []byte
	for _, payload := range payloads {
		length := binary.BigEndian.AppendUint32(nil, uint32(len(payload)))
		sum := crc32.ChecksumIEEE(append(slices.Clone(length), payload...))
		text = append(text, length...)
		text = binary.BigEndian.AppendUint32(text, sum)
		text = append(text, payload...)
	}
	return string(text)
}

func paperProbes(key string, bits uint64) []uint64 {
	h := fnv.New64a()
	h.Write([]byte(key))
	word := h.Sum(nil)
	b, a := uint64(binary.BigEndian.Uint32(word[:4])|1), uint64(binary.BigEndian.Uint32(word[4:]))
	return []uint64{a % bits, (a + b) % bits, (a + 2*b) % bits, (a + 3*b) % bits}
}

func paperFilter(keys []string) string {
	filter := make([]byte, (10*len(keys)+7)/8)
	for _, key := range keys {
		for _, p := range paperProbes(key, 8*uint64(len(filter))) {
			filter[p/8] |= 1 << (p % 8)
		}
	}
	return string(filter)
}

func paperMay(filter, key string) bool {
	may := len(filter) > 0
	if may {
		for _, p := range paperProbes(key, 8*uint64(len(filter))) {
			may = may && filter[p/8]&(1<<(p%8)) != 0
		}
	}
	return may
}

// paperKeys: the keys of the list, each once.
func paperKeys(list []api.Entry) []string {
	set := map[string]int{}
	for _, version := range list {
		set[version.Key]++
	}
	var keys []string
	for key := range set {
		keys = append(keys, key)
	}
	sort.Strings(keys)
	return keys
}

// paperChunks: the list eight by eight.
func paperChunks(list []api.Entry) [][]api.Entry {
	var chunks [][]api.Entry
	for len(list) > 0 {
		n := min(8, len(list))
		chunks, list = append(chunks, list[:n]), list[n:]
	}
	return chunks
}

// paperPayloads: what the frames hold of a table that is cut so, whether or not it is rightly cut.
func paperPayloads(chunks [][]api.Entry) []string {
	var payloads []string
	index, place := paperNumber(len(chunks)), 0
	for _, chunk := range chunks {
		last := ""
		if len(chunk) > 0 {
			last = chunk[len(chunk)-1].Key
		}
		index += paperText(last) + paperNumber(place)
		payloads = append(payloads, paperBlock(chunk))
		place += 8 + len(payloads[len(payloads)-1])
	}
	list := slices.Concat(chunks...)
	footer := "TRM1" + paperNumber(place) + paperNumber(len(list))
	return append(payloads, index, paperFilter(paperKeys(list)), footer)
}

func paperBuild(list []api.Entry) (string, api.Errno) {
	if !paperRises(list) {
		return "", api.ErrOrder
	}
	payloads := paperPayloads(paperChunks(list))
	for _, payload := range payloads {
		if len(payload) > 65536 {
			return "", api.ErrLong
		}
	}
	return paperFrames(payloads), api.OK
}

// guess reads a text in the shape of a table, whatever its numbers and their order; what it finds may have another text.
type guess struct {
	rest []byte
	bad  bool
}

func (g *guess) take(n uint64) []byte {
	if n > uint64(len(g.rest)) {
		g.bad = true
		return nil
	}
	taken := g.rest[:n]
	g.rest = g.rest[n:]
	return taken
}

func (g *guess) number() uint64 {
	n, size := binary.Uvarint(g.rest)
	g.bad = g.bad || size <= 0
	g.take(uint64(max(size, 0)))
	return n
}

func (g *guess) whole() int {
	n, size := binary.Varint(g.rest)
	g.bad = g.bad || size <= 0
	g.take(uint64(max(size, 0)))
	return int(n)
}

func (g *guess) versions() []api.Entry {
	var list []api.Entry
	before := ""
	for left := g.number(); left > 0 && !g.bad; left-- {
		share := g.number()
		if share > uint64(len(before)) {
			g.bad = true
			break
		}
		version := api.Entry{Key: before[:share] + string(g.take(g.number())), Seq: g.whole()}
		version.Dead = g.number() != 0
		if !version.Dead {
			version.Value = string(g.take(g.number()))
		}
		list = append(list, version)
		before = version.Key
	}
	return list
}

// paperOpen: the versions whose table on paper the text is; false, if there are none.
func paperOpen(text string) ([]api.Entry, bool) {
	frames := &guess{rest: []byte(text)}
	var payloads [][]byte
	for len(frames.rest) > 0 && !frames.bad {
		head := frames.take(8)
		if !frames.bad {
			payloads = append(payloads, frames.take(uint64(binary.BigEndian.Uint32(head))))
		}
	}
	if frames.bad || len(payloads) < 3 {
		return nil, false
	}
	var list []api.Entry
	for _, payload := range payloads[:len(payloads)-3] {
		g := &guess{rest: payload}
		list = append(list, g.versions()...)
		if g.bad {
			return nil, false
		}
	}
	again, err := paperBuild(list)
	return list, err == api.OK && again == text
}

// paperGet goes through the whole list.
func paperGet(list []api.Entry, key string, at int) (api.Entry, bool) {
	var found api.Entry
	ok := false
	for _, version := range list {
		if version.Key == key && version.Seq <= at && (!ok || version.Seq > found.Seq) {
			found, ok = version, true
		}
	}
	return found, ok
}

func paperFrom(list []api.Entry, key string) []api.Entry {
	return slices.DeleteFunc(slices.Clone(list), func(version api.Entry) bool { return version.Key < key })
}

// isTable asks the opened table everything, and holds what it says against the list.
func isTable(t *testing.T, x *Table, list []api.Entry) {
	t.Helper()
	if x.Len() != len(list) || x.Blocks() != len(paperChunks(list)) {
		t.Errorf("of %s: Len %d, Blocks %d", brief(list), x.Len(), x.Blocks())
	}
	if got := x.All(); !slices.Equal(got, list) {
		t.Errorf("All: %s, not %s", brief(got), brief(list))
	}
	first, last, some := "", "", len(list) > 0
	if some {
		first, last = list[0].Key, list[len(list)-1].Key
	}
	if got, ok := x.First(); got != first || ok != some {
		t.Errorf("of %s: First: %s, %t", brief(list), brief(got), ok)
	}
	if got, ok := x.Last(); got != last || ok != some {
		t.Errorf("of %s: Last: %s, %t", brief(list), brief(got), ok)
	}
	filter := paperFilter(paperKeys(list))
	for _, key := range around(list) {
		asked(t, x, list, filter, key)
	}
}

// around: the keys of the list, and some that stand right ahead of them, between them and behind them.
func around(list []api.Entry) []string {
	keys := []string{"", "\x00", "m", "\xff", strings.Repeat("\xff", 8)}
	for _, key := range paperKeys(list) {
		keys = append(keys, key, key+"\x00", key+"\xff")
		if end := len(key) - 1; end >= 0 {
			keys = append(keys, key[:end], key[:end]+string([]byte{key[end] + 1}), key[:end]+string([]byte{key[end] - 1}))
		}
	}
	return keys
}

// asked asks for one key.
func asked(t *testing.T, x *Table, list []api.Entry, filter, key string) {
	t.Helper()
	from := paperFrom(list, key)
	if got := x.From(key); !slices.Equal(got, from) {
		t.Errorf("From(%s): %s, not %s", brief(key), brief(got), brief(from))
	}
	may := paperMay(filter, key)
	if got := x.May(key); got != may {
		t.Errorf("May(%s): %t", brief(key), got)
	}
	seqs := []int{math.MinInt, -1, 0, 1, math.MaxInt}
	for _, version := range from {
		if version.Key == key {
			seqs = append(seqs, version.Seq-1, version.Seq, version.Seq+1)
		}
	}
	for _, at := range seqs {
		version, ok := paperGet(list, key, at)
		if got, found := x.Get(key, at); got != version || found != ok {
			t.Errorf("Get(%s, %d): %s, %t, not %s", brief(key), at, brief(got), found, brief(version))
		} else if found && !may {
			t.Errorf("Get(%s, %d) finds what May denies", brief(key), at)
		}
	}
}

// drawText: a text of few unlike bytes, so that keys share beginnings, mostly short, seldom above 127 bytes.
func drawText(r *rand.Rand) string {
	size := r.Intn(5)
	if r.Intn(40) == 0 {
		size = 100 + r.Intn(60)
	}
	text := make([]byte, size)
	for i := range text {
		text[i] = "\x00ab\xff"[r.Intn(4)]
	}
	return string(text)
}

func drawSeq(r *rand.Rand) int {
	switch r.Intn(10) {
	case 0:
		return []int{math.MinInt, math.MinInt + 1, math.MaxInt - 1, math.MaxInt}[r.Intn(4)]
	case 1:
		return r.Intn(1<<40) - 1<<39
	}
	return r.Intn(15) - 7
}

func drawVersion(r *rand.Rand) api.Entry {
	if r.Intn(3) == 0 {
		return gone(drawText(r), drawSeq(r))
	}
	return live(drawText(r), drawSeq(r), drawText(r))
}

// drawList: versions that rise strictly, of few keys or of many.
func drawList(r *rand.Rand, most int) []api.Entry {
	var list []api.Entry
	same := r.Intn(5)
	for range r.Intn(most + 1) {
		version := drawVersion(r)
		if len(list) > 0 && r.Intn(5) < same {
			version.Key = list[len(list)-1].Key
		}
		list = append(list, version)
	}
	sort.SliceStable(list, func(i, j int) bool { return paperLess(list[i], list[j]) })
	return slices.CompactFunc(list, func(a, b api.Entry) bool { return a.Key == b.Key && a.Seq == b.Seq })
}

// P9.1, P9.2, P9.3: lists by chance, the same in each run: their text is the one on paper, and they come back.
func TestLists(t *testing.T) {
	r := rand.New(rand.NewSource(9))
	over := 0
	for range 1200 {
		list := drawList(r, 40)
		wantTable(t, list)
		for i := 8; i < len(list); i += 8 {
			if list[i-1].Key == list[i].Key {
				over++
			}
		}
	}
	if over < 300 {
		t.Errorf("only %d keys stand in two blocks: this test tries too little", over)
	}
}

// P9.1: versions in each other's place, one twice, or a dead one with a value: the paper says whether there is a table.
func TestSpoiltLists(t *testing.T) {
	r := rand.New(rand.NewSource(91))
	refused := 0
	const all = 3000
	for range all {
		list := append(drawList(r, 30), live("\xff\xff\xff\xff\xff", 1, ""))
		i, j := r.Intn(len(list)), r.Intn(len(list))
		switch r.Intn(5) {
		case 0:
			list[i], list[j] = list[j], list[i]
		case 1:
			list[i] = list[j]
		case 2:
			list[i] = drawVersion(r)
		case 3:
			list[i].Dead = true
		case 4:
			list[i].Seq = drawSeq(r)
		}
		text, errno := paperBuild(list)
		if got, err := Build(list...); got != text || err != errno {
			t.Errorf("Build of %s: %d, not %d", brief(list), err, errno)
		}
		if errno != api.OK {
			refused++
		}
	}
	if refused < all/5 || refused > all*4/5 {
		t.Errorf("%d of %d were refused: this test tries too little", refused, all)
	}
}

// asPaper holds Open against the paper, and what was opened against the text. It answers whether the text is a table's.
func asPaper(t *testing.T, text string) bool {
	t.Helper()
	list, ok := paperOpen(text)
	if !ok {
		refusedText(t, text, "spoilt")
		return false
	}
	x, err := Open(text)
	if err != api.OK {
		t.Fatalf("Open of %s: %d", brief(hex.EncodeToString([]byte(text))), err)
	}
	if got := x.All(); !slices.Equal(got, list) {
		t.Fatalf("All of %s: %s, not %s", brief(hex.EncodeToString([]byte(text))), brief(got), brief(list))
	}
	if again, err := Build(x.All()...); err != api.OK || again != text {
		t.Fatalf("Build of what %s holds: %d, %s", brief(hex.EncodeToString([]byte(text))), err, brief(hex.EncodeToString([]byte(again))))
	}
	return true
}

// spoil changes a byte, puts one in, or takes one out.
func spoil(r *rand.Rand, text string) string {
	drawn := string([]byte{byte(r.Intn(256))})
	if text == "" {
		return drawn
	}
	i := r.Intn(len(text))
	if r.Intn(2) == 0 {
		drawn = string([]byte{text[i] + byte(r.Intn(3)) - 1})
	}
	switch r.Intn(4) {
	case 0:
		return text[:i] + drawn + text[i:]
	case 1:
		return text[:i] + text[i+1:]
	}
	return text[:i] + drawn + text[i+1:]
}

// P9.2: of texts with spoilt bytes, whose sums are wrong then, those are taken that the paper says.
func TestSpoiltTexts(t *testing.T) {
	r := rand.New(rand.NewSource(92))
	for range 400 {
		text, _ := Build(drawList(r, 20)...)
		for range 20 {
			asPaper(t, spoil(r, text))
		}
		i, j := r.Intn(len(text)), r.Intn(len(text))
		asPaper(t, text[:min(i, j)]+text[max(i, j):])
		asPaper(t, text[:max(i, j)]+text[min(i, j):])
	}
}

// drawSpoilt spoils some payload, or takes one out, puts one in, or changes two of them.
func drawSpoilt(r *rand.Rand, payloads []string) []string {
	spoilt := slices.Clone(payloads)
	i, j := r.Intn(len(spoilt)), r.Intn(len(spoilt))
	switch r.Intn(10) {
	case 0:
		return slices.Delete(spoilt, i, i+1)
	case 1:
		return slices.Insert(spoilt, i, spoilt[j])
	case 2:
		spoilt[i], spoilt[j] = spoilt[j], spoilt[i]
	default:
		spoilt[i] = spoil(r, spoilt[i])
	}
	return spoilt
}

// P9.2: of whole frames with right sums and spoilt payloads those are taken that the paper says.
func TestSpoiltPayloads(t *testing.T) {
	r := rand.New(rand.NewSource(93))
	taken := 0
	const all = 20000
	for range all / 20 {
		payloads := paperPayloads(paperChunks(drawList(r, 20)))
		for range 20 {
			if asPaper(t, paperFrames(drawSpoilt(r, payloads))) {
				taken++
			}
		}
	}
	if taken < all/50 || taken > all*49/50 {
		t.Errorf("%d of %d were taken: this test tries too little", taken, all)
	}
}

// P9.2: versions that were cut by chance, index and footer being made for that, are taken just if they are cut eight by eight.
func TestOtherCuts(t *testing.T) {
	r := rand.New(rand.NewSource(94))
	taken := 0
	for range 3000 {
		list := drawList(r, 20)
		var chunks [][]api.Entry
		for left := list; len(left) > 0; {
			n := min(8, len(left))
			if r.Intn(3) == 0 {
				n = r.Intn(len(left) + 1)
			}
			chunks, left = append(chunks, left[:n]), left[n:]
		}
		if asPaper(t, paperFrames(paperPayloads(chunks))) {
			taken++
		}
	}
	if taken < 300 || taken > 2700 {
		t.Errorf("%d of 3000 were taken: this test tries too little", taken)
	}
}

// P9.2: no strict beginning of a table's text is one, and nothing longer that begins with it.
func TestBeginningsAndMore(t *testing.T) {
	r := rand.New(rand.NewSource(95))
	for range 60 {
		text, _ := Build(drawList(r, 20)...)
		for n := range len(text) {
			refusedText(t, text[:n], "a beginning")
		}
		for b := range 256 {
			refusedText(t, text+string([]byte{byte(b)}), "a byte behind")
		}
		other, _ := Build(drawList(r, 20)...)
		refusedText(t, text+other, "another table behind")
		for n := range len(other) {
			refusedText(t, text+other[:n+1], "a beginning of another table behind")
		}
	}
}

// P9.2: texts that were drawn are no tables.
func TestDrawnTexts(t *testing.T) {
	r := rand.New(rand.NewSource(96))
	for range 3000 {
		asPaper(t, drawText(r)+drawText(r))
		var payloads []string
		for range r.Intn(6) {
			payloads = append(payloads, drawText(r))
		}
		asPaper(t, paperFrames(payloads))
		asPaper(t, paperFrames(append(payloads, "\x00", "", "TRM1\x00\x00")))
	}
}

// P9.1, P9.3: of many keys that are there, and of many that aren't, May says what the filter of the same keys says.
func TestMayOfManyKeys(t *testing.T) {
	r := rand.New(rand.NewSource(97))
	yes, no := 0, 0
	for range 40 {
		list := drawList(r, 200)
		x := opened(t, list)
		filter := paperFilter(paperKeys(list))
		for _, key := range paperKeys(list) {
			if !x.May(key) {
				t.Errorf("May(%s) denies what is there", brief(key))
			}
		}
		for range 300 {
			key := drawText(r) + drawText(r)
			may := paperMay(filter, key)
			_, found := x.Get(key, math.MaxInt)
			if x.May(key) != may || found && !may {
				t.Errorf("May(%s): %t, and Get: %t", brief(key), !may, found)
			}
			if may && !found {
				yes++
			} else if !may {
				no++
			}
		}
	}
	if yes < 10 || no < 1000 {
		t.Errorf("May said yes of %d and no of %d: this test tries too little", yes, no)
	}
}

// R4: the same calls give the same answers, again and whatever was asked between.
func TestSameCallsSameAnswers(t *testing.T) {
	r := rand.New(rand.NewSource(98))
	var lists [][]api.Entry
	var tables []*Table
	for range 60 {
		list := drawList(r, 30)
		lists, tables = append(lists, list), append(tables, opened(t, list))
	}
	for range 2 {
		for _, i := range r.Perm(len(lists)) {
			refusedText(t, "\x00", "no table")
			refusedList(t, append(slices.Clone(lists[i]), api.Entry{Dead: true, Value: "x"}), api.ErrOrder)
			isTable(t, tables[i], lists[i])
			wantTable(t, lists[i])
		}
	}
}
