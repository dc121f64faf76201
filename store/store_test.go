package store

import (
	"fmt"
	"math"
	"math/rand"
	"slices"
	"strings"
	"testing"

	"tarmac/api"
	"tarmac/order"
	"tarmac/vfs"
)

// P12.1, P12.4: the chapter's examples.
func TestExamples(t *testing.T) {
	s := opened(t, vfs.New(), api.Setting{})
	want(t, "Write", s.Write(pairs("a", "1", "b", "2")...), api.OK)
	n := s.Snap()
	want(t, "Write", s.Write(dead("a"), set("c", "3")), api.OK)
	now := contents{"b": "2", "c": "3"}
	wantGet(t, s, now, 0, "a")
	wantScan(t, s, now, 0, "", "")
	wantScan(t, s, contents{"b": "2"}, 0, "b", "c")
	was := contents{"a": "1", "b": "2"}
	wantGet(t, s, was, n, "a")
	wantScan(t, s, was, n, "", "")
	want(t, "Free", s.Free(n), api.OK)
	wantNoLook(t, s, n)
	want(t, "Write", s.Write(set("a", "1"), set("a", "2")), api.OK)
	wantGet(t, s, contents{"a": "2"}, 0, "a")
	want(t, "Write", s.Write(set("a", strings.Repeat("v", 4096))), api.ErrLong)
	wantScan(t, s, now.with(set("a", "2")), 0, "", "")
}

// desk is a store, and the same on paper.
type desk struct {
	f *vfs.FS
	s *Store
	p *paper
}

func newDesk(t *testing.T, setting api.Setting) *desk {
	f := vfs.New()
	return &desk{f, opened(t, f, setting), newPaper()}
}

func (d *desk) call(t *testing.T, c call) {
	t.Helper()
	if c.kind == "Snap" {
		if n, right := d.s.Snap(), d.p.snap(); n != right {
			t.Fatalf("Snap: %d, not %d", n, right)
		}
		return
	}
	want(t, c.kind, c.on(d.s), c.onPaper(d.p))
}

// reopen leaves the store, whose looks back are gone with it.
func (d *desk) reopen(t *testing.T, f *vfs.FS, setting api.Setting) {
	t.Helper()
	d.f, d.s = f, opened(t, f, setting)
	d.p = &paper{now: d.p.now, looks: map[int]contents{}}
}

// P12.1, P12.4: many rows of calls by chance, the same in each run, are answered as on paper.
func TestRowsOfCalls(t *testing.T) {
	source := rand.New(rand.NewSource(12))
	for range 150 {
		d := newDesk(t, anySetting(source))
		for range 60 {
			d.call(t, anyCall(source))
			switch source.Intn(25) {
			case 0:
				d.reopen(t, d.f, anySetting(source))
			case 1:
				d.reopen(t, d.f.Crash(anyKeep(source)...), anySetting(source))
			}
			if d.s.Down() {
				t.Fatal("down without a fate")
			}
			wantLikePaper(t, d.s, d.p, source)
		}
	}
}

// everywhere runs a test on a store whose batches stay in memory, on one whose batches are written out, and on one that merges them.
func everywhere(t *testing.T, run func(t *testing.T, s *Store)) {
	for _, setting := range []api.Setting{{MemMax: 1000}, {MemMax: 1, Fan: 1000}, smallest(), {MemMax: 3, Fan: 2, Heights: []int{2, 0, 1}}} {
		run(t, opened(t, vfs.New(), setting))
	}
}

// P12.1: batches of no ops, of one, of several, and what they leave.
func TestWrite(t *testing.T) {
	everywhere(t, func(t *testing.T, s *Store) {
		c := contents{}
		for _, ops := range [][]api.Op{
			nil,
			{},
			{dead("none")},
			{set("a", "1")},
			{set("b", "2"), set("c", "3")},
			{set("a", "4"), dead("a"), set("a", "5")},
			{dead("b"), set("b", "6"), dead("b")},
			{set("", ""), set("\x00", "nul")},
			{set("d", ""), set("c", "")},
			{{Key: "c", Dead: true, Value: "unseen"}},
			{dead("")},
			{dead("gone"), dead("gone")},
			{set("a", "7"), set("a", "7")},
		} {
			want(t, "Write of "+shown(ops), s.Write(ops...), api.OK)
			c = c.with(ops...)
			wantScan(t, s, c, 0, "", "")
			for _, key := range []string{"", "\x00", "a", "b", "c", "d", "none", "gone"} {
				wantGet(t, s, c, 0, key)
			}
		}
	})
}

// filledUp: ops whose batch has this size.
func filledUp(size int, ops ...api.Op) []api.Op {
	return append(ops, set("filler", strings.Repeat("v", size-paperSize(ops)-16-len("filler"))))
}

// emptyKeys: as many ops as a batch can have.
func emptyKeys() []api.Op {
	ops := slices.Repeat([]api.Op{set("", "")}, 256)
	ops[100].Dead = true
	return ops
}

// P12.1: a batch that is just as long as may be is taken, and one above it leaves the contents as they were.
func TestLongBatches(t *testing.T) {
	many := make([]api.Op, 0, 240)
	for i := range 240 {
		many = append(many, set(string(rune(i+256)), ""))
	}
	right := [][]api.Op{
		{set("k", strings.Repeat("v", 4079))},
		{set(strings.Repeat("k", 4080), "")},
		{dead(strings.Repeat("k", 4080))},
		{{Key: "k", Dead: true, Value: strings.Repeat("v", 4079)}},
		filledUp(4096, set("a", "1"), dead("b"), set("", "")),
		filledUp(4096, many[:200]...),
		emptyKeys(),
	}
	everywhere(t, func(t *testing.T, s *Store) {
		c := contents{"k": "old"}
		want(t, "Write", s.Write(set("k", "old")), api.OK)
		for _, ops := range right {
			if paperSize(ops) != api.MaxBatch {
				t.Fatalf("a batch of size %d", paperSize(ops))
			}
			for _, longer := range [][]api.Op{
				append(slices.Clone(ops), set("", "")),
				append(slices.Clone(ops), dead("")),
				append([]api.Op{set(ops[0].Key+"x", ops[0].Value)}, ops[1:]...),
				append([]api.Op{{Key: ops[0].Key, Dead: true, Value: ops[0].Value + "x"}}, ops[1:]...),
			} {
				want(t, "Write above the limit", s.Write(longer...), api.ErrLong)
				wantScan(t, s, c, 0, "", "")
			}
			want(t, "Write at the limit", s.Write(ops...), api.OK)
			c = c.with(ops...)
			wantScan(t, s, c, 0, "", "")
		}
		want(t, "Write far above the limit", s.Write(set("k", strings.Repeat("v", 1<<20))), api.ErrLong)
		want(t, "Write of many", s.Write(slices.Repeat([]api.Op{dead("k")}, 257)...), api.ErrLong)
		wantScan(t, s, c, 0, "", "")
	})
}

// P12.1: what a call answers of keys and of ranges at the edges.
func TestGetAndScan(t *testing.T) {
	everywhere(t, func(t *testing.T, s *Store) {
		c := contents{}
		for _, ops := range [][]api.Op{
			pairs("b", "1", "d", "2", "f", "3", "d\x00", "4"),
			{dead("d"), set("h", "5")},
			pairs("f", "6", "\xff\xff", "7"),
			{set("d", "8"), dead("h"), set("a", "")},
		} {
			want(t, "Write", s.Write(ops...), api.OK)
			c = c.with(ops...)
		}
		edges := []string{"", "\x00", "a", "a\x00", "b", "c", "d", "d\x00", "d\x00\x00", "e", "f", "g", "h", "i", "\xff", "\xff\xff", "\xff\xff\xff"}
		for _, from := range edges {
			wantGet(t, s, c, 0, from)
			for _, to := range edges {
				wantScan(t, s, c, 0, from, to)
			}
		}
		if list, err := s.Scan("g", "a"); list != nil || err != api.OK {
			t.Errorf("Scan of an empty range: %s error %d", shown(list), err)
		}
	})
}

// P12.1, R2: a store without files is empty.
func TestEmpty(t *testing.T) {
	everywhere(t, func(t *testing.T, s *Store) {
		for range 2 {
			wantLikePaper(t, s, newPaper(), rand.New(rand.NewSource(1)))
			want(t, "Flush", s.Flush(), api.OK)
			want(t, "Compact", s.Compact(), api.OK)
			want(t, "Write of none", s.Write(), api.OK)
		}
		if n := s.Snap(); n != 1 {
			t.Errorf("the first Snap: %d", n)
		}
		wantScan(t, s, contents{}, 1, "", "")
	})
}

// P12.4: the numbers of looks back, and which go.
func TestSnapAndFree(t *testing.T) {
	everywhere(t, func(t *testing.T, s *Store) {
		for i := range 5 {
			want(t, "Write", s.Write(set("a", fmt.Sprint(i))), api.OK)
			if n := s.Snap(); n != i+1 {
				t.Fatalf("Snap: %d, not %d", n, i+1)
			}
		}
		for _, n := range []int{0, -1, 6, 7, 100, math.MinInt, math.MaxInt} {
			wantNoLook(t, s, n)
		}
		for _, n := range []int{3, 5, 1} {
			want(t, "Free", s.Free(n), api.OK)
			wantNoLook(t, s, n)
		}
		wantGet(t, s, contents{"a": "1"}, 2, "a")
		wantGet(t, s, contents{"a": "3"}, 4, "a")
		if n := s.Snap(); n != 6 {
			t.Errorf("Snap behind Free of the last: %d", n)
		}
		wantGet(t, s, contents{"a": "4"}, 6, "a")
		wantNoLook(t, s, 5)
	})
}

// P12.4: a look back shows the same, whatever is written, written out and merged, and when others go.
func TestLooksStay(t *testing.T) {
	source := rand.New(rand.NewSource(13))
	for _, setting := range []api.Setting{{MemMax: 1000}, {MemMax: 2, Fan: 1000}, smallest(), {MemMax: 5, Fan: 3}} {
		d := newDesk(t, setting)
		for i := range 12 {
			d.call(t, call{kind: "Write", ops: anyBatch(source)})
			d.call(t, call{kind: "Snap"})
			if i%3 == 0 { // two that see the same, of which one goes later
				d.call(t, call{kind: "Snap"})
			}
		}
		for _, kind := range []string{"Flush", "Write", "Compact", "Write", "Write", "Flush", "Compact", "Compact"} {
			d.call(t, call{kind: kind, ops: []api.Op{dead("a"), dead("key"), set("b", kind), dead("")}})
			wantLikePaper(t, d.s, d.p, source)
		}
		for n := range 17 {
			d.call(t, call{kind: "Free", n: (n * 5) % 17})
			d.call(t, call{kind: "Compact"})
			wantLikePaper(t, d.s, d.p, source)
		}
	}
}

// P12.4: a key that is dead now is still seen by the look back at which it had a value, and behind a merge too.
func TestLookBackOfDead(t *testing.T) {
	everywhere(t, func(t *testing.T, s *Store) {
		want(t, "Write", s.Write(set("a", "1")), api.OK)
		want(t, "Compact", s.Compact(), api.OK)
		s.Snap()
		want(t, "Write", s.Write(dead("a")), api.OK)
		s.Snap()
		for range 3 {
			want(t, "Compact", s.Compact(), api.OK)
			wantScan(t, s, contents{"a": "1"}, 1, "", "")
			wantScan(t, s, contents{}, 2, "", "")
			wantScan(t, s, contents{}, 0, "", "")
		}
		want(t, "Free", s.Free(1), api.OK)
		want(t, "Compact", s.Compact(), api.OK)
		wantScan(t, s, contents{}, 2, "", "")
		want(t, "Write", s.Write(set("a", "2")), api.OK)
		wantScan(t, s, contents{}, 2, "", "")
		wantScan(t, s, contents{"a": "2"}, 0, "", "")
	})
}

// answers: what a row of calls is answered, and what is seen behind each.
func answers(t *testing.T, f *vfs.FS, row []call, settings ...api.Setting) string {
	t.Helper()
	text := ""
	s, err := Open(f, settings[0])
	for i, c := range row {
		if i%20 == 19 {
			s, err = Open(f, settings[i/20%len(settings)])
			text += fmt.Sprint(err)
		}
		err := c.on(s)
		list, scanErr := s.Scan("", "")
		value, ok, getErr := s.Get("a")
		look, lookErr := s.ScanAt(1+i%3, "a", "c")
		then, thenOk, thenErr := s.GetAt(1+i%3, "key")
		text += fmt.Sprintf("%s %d %s %d %q %v %d %s %d %q %v %d %d\n", c.kind, err, shown(list), scanErr, value, ok, getErr, shown(look), lookErr, then, thenOk, thenErr, s.Snap())
	}
	return text
}

func settings() []api.Setting {
	var list []api.Setting
	numbers := []int{math.MinInt, -1, 0, 1, 2, 3, 7, 1000, math.MaxInt}
	heights := [][]int{nil, {}, {-1, math.MinInt, -9}, {0}, {9, 100, math.MaxInt, 7}, {2, 0, 1}}
	for i, memMax := range numbers {
		for j, fan := range numbers {
			list = append(list, api.Setting{MemMax: memMax, Fan: fan, Heights: heights[(i+j)%len(heights)]})
		}
	}
	return list
}

// P12.5, R3: the same row of calls is answered the same, whatever the setting is, and if it is another one at each opening.
func TestSettings(t *testing.T) {
	source := rand.New(rand.NewSource(14))
	for range 4 {
		row := anyRow(source, 60)
		right := answers(t, vfs.New(), row, api.Setting{MemMax: math.MaxInt})
		for _, setting := range settings() {
			if answers(t, vfs.New(), row, setting) != right {
				t.Errorf("other answers with %v", setting)
			}
		}
		mixed := settings()
		source.Shuffle(len(mixed), func(i, j int) { mixed[i], mixed[j] = mixed[j], mixed[i] })
		if answers(t, vfs.New(), row, mixed...) != right {
			t.Errorf("other answers with settings in turn")
		}
	}
}

// R4: the same row of calls on a new one gives the same answers, and the same files by the same acts.
func TestSameRowSameAnswers(t *testing.T) {
	source := rand.New(rand.NewSource(15))
	for range 10 {
		row, setting, first := anyRow(source, 50), anySetting(source), ""
		for range 5 {
			f := vfs.New()
			text := answers(t, f, row, setting) + told(f)
			if first == "" {
				first = text
			}
			if text != first {
				t.Fatalf("other answers, or other files, by the same calls with %v", setting)
			}
		}
	}
}

// P12.1: in keys that package order makes, the records of a kind are those from its key up to its end, in the order of their numbers.
func TestKeysOfRecords(t *testing.T) {
	everywhere(t, func(t *testing.T, s *Store) {
		kinds := []string{"", "a", "pax", "pax\x00", "pa", "paxe", "flight", "\xff"}
		numbers := []int{math.MaxInt, -1, 300, 0, 255, math.MinInt, 1, 256, -300}
		key := func(kind string, n ...int) string {
			text, _ := order.Key(append(order.Text(kind), order.Int(n...)...)...)
			return text
		}
		for _, n := range numbers {
			for _, kind := range kinds {
				want(t, "Write", s.Write(set(key(kind, n), fmt.Sprintf("%q %d", kind, n))), api.OK)
			}
		}
		slices.Sort(numbers)
		for _, kind := range kinds {
			var right []api.Op
			for _, n := range numbers {
				right = append(right, set(key(kind, n), fmt.Sprintf("%q %d", kind, n)))
			}
			if list, err := s.Scan(key(kind), order.End(key(kind))); err != api.OK || !slices.Equal(list, right) {
				t.Errorf("records of %q: %s error %d", kind, shown(list), err)
			}
		}
	})
}

// R5: what is handed in stays as it was, its spare memory too, and the store has no part of it.
func TestNothingChangedNothingKept(t *testing.T) {
	heights := []int{3, 1, 2, 77}[:3]
	s := opened(t, vfs.New(), api.Setting{MemMax: 4, Fan: 2, Heights: heights})
	c := contents{}
	for i := range 12 {
		ops := []api.Op{set("b", fmt.Sprint(i)), {Key: "a", Dead: true, Value: "v"}, set("a", "1"), set("spare", "s"), set("spare", "t")}[:3]
		was := slices.Clone(ops[:5])
		c = c.with(ops...)
		want(t, "Write", s.Write(ops...), api.OK)
		if !slices.Equal(ops[:5], was) {
			t.Errorf("the ops are %s now", shown(ops[:5]))
		}
		if !slices.Equal(heights[:4], []int{3, 1, 2, 77}) {
			t.Errorf("the heights are %v now", heights[:4])
		}
		clear(ops[:5])
		wantScan(t, s, c, 0, "", "")
	}
	clear(heights[:4])
	if !slices.Equal(s.heights, []int{3, 1, 2}) {
		t.Errorf("the store's heights are %v behind the caller's change", s.heights)
	}
}

// R5: what is answered is new memory.
func TestAnswersAreNew(t *testing.T) {
	everywhere(t, func(t *testing.T, s *Store) {
		c := contents{"a": "1", "b": "2", "c": "3"}
		want(t, "Write", s.Write(pairs("a", "1", "b", "2", "c", "3")...), api.OK)
		n := s.Snap()
		for range 2 {
			now, _ := s.Scan("", "")
			then, _ := s.ScanAt(n, "a", "c")
			clear(now)
			clear(then)
			_ = append(append(now[:0], set("x", "y")), now...)
			wantScan(t, s, c, 0, "", "")
			wantScan(t, s, c, n, "", "")
			want(t, "Flush", s.Flush(), api.OK)
		}
	})
}

// P12.1: many keys so long that one table can't hold them all: its index has a frame's limit.
func TestLongKeys(t *testing.T) {
	f := vfs.New()
	s := opened(t, f, api.Setting{MemMax: 1000, Fan: 1000, Heights: []int{0, 1, 0, 2, 0, 1, 0, 3}})
	c := contents{}
	for i := range 300 {
		op := set(fmt.Sprintf("%03d", i*7%300)+strings.Repeat("k", 4000), fmt.Sprint(i))
		want(t, "Write", s.Write(op), api.OK)
		c = c.with(op)
	}
	for _, kind := range []string{"Flush", "Compact"} {
		want(t, kind, call{kind: kind}.on(s), api.OK)
		wantScan(t, s, c, 0, "", "")
	}
	if s.tablesOf(lower) < 2 || s.tablesOf(upper) != 0 {
		t.Errorf("%d lower tables, %d upper ones", s.tablesOf(lower), s.tablesOf(upper))
	}
	s = opened(t, f.Crash(), api.Setting{})
	wantScan(t, s, c, 0, "", "")
	for key := range c {
		wantGet(t, s, c, 0, key)
	}
}

// A setting is more than a word: what is in memory is written out, tables are merged, and what nobody sees any more goes.
func TestFilesStayFew(t *testing.T) {
	f := vfs.New()
	s := opened(t, f, api.Setting{MemMax: 4, Fan: 3})
	for i := range 400 {
		want(t, "Write", s.Write(set(fmt.Sprint(i%10), strings.Repeat("v", 50)), dead(fmt.Sprint((i+5)%10))), api.OK)
		names, _ := f.List()
		bytes := 0
		for _, name := range names {
			text, _ := f.Read(name)
			bytes += len(text)
		}
		if s.memory.Len() >= 4 || s.tablesOf(upper) >= 3 || len(names) > 6 || bytes > 10000 {
			t.Fatalf("%d versions in memory, %d upper tables; %d bytes in %q", s.memory.Len(), s.tablesOf(upper), bytes, names)
		}
	}
}
