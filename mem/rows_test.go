package mem

import (
	"fmt"
	"math"
	"math/rand"
	"slices"
	"sort"
	"strings"
	"testing"

	"tarmac/api"
)

// paper is a table on paper: it says the chapter's words by other means than the package's own.
type paper struct {
	versions map[place]api.Entry
}

type place struct {
	key string
	seq int
}

func newPaper() *paper { return &paper{map[place]api.Entry{}} }

func (p *paper) add(entries ...api.Entry) {
	for _, entry := range entries {
		if entry.Dead {
			entry.Value = ""
		}
		p.versions[place{entry.Key, entry.Seq}] = entry
	}
}

func (p *paper) all() []api.Entry {
	var list []api.Entry
	for _, version := range p.versions {
		list = append(list, version)
	}
	sort.Slice(list, func(i, j int) bool { return less(list[i], list[j]) })
	return list
}

func (p *paper) from(key string) []api.Entry {
	return slices.DeleteFunc(p.all(), func(version api.Entry) bool { return version.Key < key })
}

// get goes through all versions in whatever order: it doesn't lean on the order of versions.
func (p *paper) get(key string, at int) (api.Entry, bool) {
	var best api.Entry
	found := false
	for _, version := range p.versions {
		if version.Key == key && version.Seq <= at && (!found || version.Seq > best.Seq) {
			best, found = version, true
		}
	}
	return best, found
}

// nearKeys: the keys, and what stands just ahead of them and just behind.
func nearKeys(list []api.Entry) []string {
	keys := []string{"", "\x00", "\xff\xff\xff\xff"}
	for _, version := range list {
		key := version.Key
		keys = append(keys, key, key+"\x00", key+"\xff")
		if key != "" {
			begin, last := key[:len(key)-1], key[len(key)-1]
			keys = append(keys, begin, begin+string([]byte{last - 1}), begin+string([]byte{last - 1, 255}), begin+string([]byte{last + 1}))
		}
	}
	slices.Sort(keys)
	return slices.Compact(keys)
}

func nearSeqs(list []api.Entry) []int {
	seqs := []int{math.MinInt, -1, 0, 1, math.MaxInt}
	for _, version := range list {
		seqs = append(seqs, version.Seq-1, version.Seq, version.Seq+1)
	}
	slices.Sort(seqs)
	return slices.Compact(seqs)
}

// wantEnds: P6.3 for every key and Seq near those of the table, told by its All alone.
func wantEnds(t *testing.T, x *Table) {
	t.Helper()
	all := x.All()
	seqs := nearSeqs(all)
	for _, key := range nearKeys(all) {
		begin := 0
		for begin < len(all) && all[begin].Key < key {
			begin++
		}
		wantFrom(t, x, key, all[begin:]...)
		for _, at := range seqs {
			first := slices.IndexFunc(x.From(key), func(version api.Entry) bool { return version.Key == key && version.Seq <= at })
			if first < 0 {
				wantNone(t, x, key, at)
			} else {
				wantGet(t, x, key, at, all[begin+first])
			}
		}
	}
}

func anyKey(source *rand.Rand) string {
	key := make([]byte, source.Intn(4))
	for i := range key {
		key[i] = "\x00a\xfe\xff"[source.Intn(4)]
	}
	return string(key)
}

func anySeq(source *rand.Rand) int {
	if source.Intn(10) == 0 {
		return []int{math.MinInt, math.MinInt + 1, math.MaxInt - 1, math.MaxInt}[source.Intn(4)]
	}
	return source.Intn(12) - 5
}

func anyEntry(source *rand.Rand) api.Entry {
	value := make([]byte, source.Intn(5))
	source.Read(value)
	return api.Entry{Key: anyKey(source), Seq: anySeq(source), Dead: source.Intn(3) == 0, Value: string(value)}
}

func anyEntries(source *rand.Rand, most int) []api.Entry {
	list := make([]api.Entry, source.Intn(most+1))
	for i := range list {
		list[i] = anyEntry(source)
	}
	return list
}

// anyVersions: versions of which no two have the same Key and Seq, in their order.
func anyVersions(source *rand.Rand, most int) []api.Entry {
	p := newPaper()
	p.add(anyEntries(source, most)...)
	return p.all()
}

func anyHeights(source *rand.Rand) []int {
	heights := make([]int, source.Intn(20))
	for i := range heights {
		heights[i] = int(source.Uint64())
	}
	return heights
}

// P6.1, P6.3: in rows of calls by chance, the same in each run, each is answered as the paper says.
func TestRowsOfCalls(t *testing.T) {
	source := rand.New(rand.NewSource(6))
	placed, found, none := 0, 0, 0
	for range 200 {
		x, p := New(anyHeights(source)...), newPaper()
		for range 60 {
			switch source.Intn(6) {
			case 0, 1:
				list := anyEntries(source, 6)
				count := len(p.versions) + len(list)
				x.Add(list...)
				p.add(list...)
				placed += count - len(p.versions)
			case 2, 3:
				key, at := anyKey(source), anySeq(source)
				version, ok := p.get(key, at)
				if ok {
					found++
					wantGet(t, x, key, at, version)
				} else {
					none++
					wantNone(t, x, key, at)
				}
			case 4:
				key := anyKey(source)
				wantFrom(t, x, key, p.from(key)...)
			default:
				wantTable(t, x, p.all()...)
			}
		}
		wantTable(t, x, p.all()...)
	}
	if placed < 1000 || found < 1000 || none < 1000 {
		t.Errorf("%d took another's place, %d were found, %d weren't: the rows say too little", placed, found, none)
	}
}

// P6.3: From is an end of All, and Get its first one of the key that isn't above the number.
func TestEndsOfAll(t *testing.T) {
	source := rand.New(rand.NewSource(7))
	for _, heights := range append(heightLists(), anyHeights(source), anyHeights(source)) {
		x := New(heights...)
		wantEnds(t, x)
		for range 3 {
			x.Add(anyEntries(source, 20)...)
			wantEnds(t, x)
		}
	}
}

// told: all that a table answers, for every key and Seq near those of the list.
func told(x *Table, list []api.Entry) string {
	var text strings.Builder
	fmt.Fprint(&text, x.Len(), x.Bytes(), x.All())
	seqs := nearSeqs(list)
	for _, key := range nearKeys(list) {
		fmt.Fprint(&text, x.From(key))
		for _, at := range seqs {
			version, ok := x.Get(key, at)
			fmt.Fprint(&text, version, ok)
		}
	}
	return text.String()
}

// permutations calls for each order of the list.
func permutations(list []api.Entry, from int, call func()) {
	if from == len(list) {
		call()
		return
	}
	for i := from; i < len(list); i++ {
		list[from], list[i] = list[i], list[from]
		permutations(list, from+1, call)
		list[from], list[i] = list[i], list[from]
	}
}

// P6.2: every order of some versions, under all heights, gives the same answers.
func TestEveryOrder(t *testing.T) {
	list := []api.Entry{dead("", 1), live("a", 2, "x"), dead("a", 1), live("a", -1, "older"), live("a\x00", 2, "y"), live("\xff", 0, "")}
	first := New()
	first.Add(list...)
	wantTable(t, first, list...)
	answers := told(first, list)
	short := heightLists()[:13]
	turn := 0
	row := slices.Clone(list)
	permutations(row, 0, func() {
		heights := short[turn%len(short)]
		turn++
		x := New(heights...)
		x.Add(row...)
		if got := told(x, list); got != answers {
			t.Fatalf("heights %s, added %s: other answers", brief(heights), brief(row))
		}
	})
	if turn != 720 {
		t.Errorf("%d orders", turn)
	}
}

// P6.2: other orders, other heights, one by one or all at once, and with others in their places first: the same answers.
func TestHeightsAndOrdersAreNotSeen(t *testing.T) {
	source := rand.New(rand.NewSource(8))
	for range 8 {
		list := anyVersions(source, 40)
		first := New()
		first.Add(list...)
		wantTable(t, first, list...)
		answers := told(first, list)
		for _, heights := range append(heightLists(), anyHeights(source)) {
			row := slices.Clone(list)
			source.Shuffle(len(row), func(i, j int) { row[i], row[j] = row[j], row[i] })
			x := New(heights...)
			for _, version := range row {
				if source.Intn(3) == 0 { // one that gives its place soon takes part in no answer
					x.Add(api.Entry{Key: version.Key, Seq: version.Seq, Dead: source.Intn(2) == 0, Value: "gone"})
				}
				x.Add(version)
			}
			if told(x, list) != answers {
				t.Fatalf("heights %s: other answers to %s", brief(heights), brief(row))
			}
			wantSound(t, x)
		}
	}
}

// P6.1, P6.2: thousands of versions, falling, rising and mixed.
func TestManyVersions(t *testing.T) {
	source := rand.New(rand.NewSource(9))
	var list []api.Entry
	for i := range 20000 {
		list = append(list, live(fmt.Sprintf("%05d", i/4), 3-i%4, fmt.Sprint(i)))
	}
	heights := make([]int, 997)
	for i := range heights {
		for heights[i] < 7 && source.Intn(4) == 0 {
			heights[i]++
		}
	}
	falling, mixed := slices.Clone(list), slices.Clone(list)
	slices.Reverse(falling)
	source.Shuffle(len(mixed), func(i, j int) { mixed[i], mixed[j] = mixed[j], mixed[i] })
	for _, row := range [][]api.Entry{list, falling, mixed} {
		x := New(heights...)
		x.Add(row...)
		wantTable(t, x, list...)
		for range 1000 {
			i := source.Intn(len(list))
			wantGet(t, x, list[i].Key, list[i].Seq, list[i])
		}
		wantFrom(t, x, "04990", list[4*4990:]...)
	}
}

// R4: the same row of calls on a new table gives the same answers.
func TestSameRowSameAnswers(t *testing.T) {
	var first string
	for range 5 {
		source := rand.New(rand.NewSource(10))
		x, answers := New(anyHeights(source)...), ""
		for range 60 {
			x.Add(anyEntries(source, 3)...)
			key := anyKey(source)
			answers += fmt.Sprint(x.Len(), x.Bytes(), x.All(), x.From(key))
			answers += fmt.Sprint(x.Get(key, anySeq(source)))
		}
		if first == "" {
			first = answers
		}
		if answers != first {
			t.Fatal("other answers to the same calls")
		}
	}
}
