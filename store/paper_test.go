package store

import (
	"fmt"
	"maps"
	"math"
	"math/rand"
	"slices"
	"sort"
	"strings"
	"testing"

	"tarmac/api"
	"tarmac/vfs"
)

const (
	before = api.FateBefore
	after  = api.FateAfter
	space  = api.FateSpace
)

func fate(at, kind int) api.Fate { return api.Fate{At: at, Kind: kind} }

// set: an op that gives the key the value.
func set(key, value string) api.Op { return api.Op{Key: key, Value: value} }

// dead: an op that takes the key out.
func dead(key string) api.Op { return api.Op{Key: key, Dead: true} }

// pairs: ops that give each key the value behind it.
func pairs(list ...string) []api.Op {
	var ops []api.Op
	for i := 0; i < len(list); i += 2 {
		ops = append(ops, set(list[i], list[i+1]))
	}
	return ops
}

// shown: ops, for a message.
func shown(ops []api.Op) string {
	text := ""
	for _, op := range ops {
		if op.Dead {
			text += "dead "
		}
		text += fmt.Sprintf("%.40q = %.40q; ", op.Key, op.Value)
	}
	return text
}

func want(t *testing.T, what string, got, err api.Errno) {
	t.Helper()
	if got != err {
		t.Fatalf("%s: error %d, not %d", what, got, err)
	}
}

// contents: which keys have which value.
type contents map[string]string

// with: the contents behind a batch.
func (c contents) with(ops ...api.Op) contents {
	c = maps.Clone(c)
	for _, op := range ops {
		if op.Dead {
			delete(c, op.Key)
		} else {
			c[op.Key] = op.Value
		}
	}
	return c
}

// scan goes through all keys, in whatever order, and sorts those of the range.
func (c contents) scan(from, to string) []api.Op {
	var ops []api.Op
	for key, value := range c {
		if key >= from && (to == "" || key < to) {
			ops = append(ops, set(key, value))
		}
	}
	sort.Slice(ops, func(i, j int) bool { return ops[i].Key < ops[j].Key })
	return ops
}

// paper is a store on paper: each look back is a copy of the contents.
type paper struct {
	now   contents
	looks map[int]contents
	given int
}

func newPaper() *paper { return &paper{now: contents{}, looks: map[int]contents{}} }

func paperSize(ops []api.Op) int {
	text := ""
	for _, op := range ops {
		text += op.Key + op.Value + strings.Repeat(".", 16)
	}
	return len(text)
}

func (p *paper) write(ops []api.Op) api.Errno {
	if paperSize(ops) > 4096 {
		return api.ErrLong
	}
	p.now = p.now.with(ops...)
	return api.OK
}

func (p *paper) snap() int {
	p.given++
	p.looks[p.given] = maps.Clone(p.now)
	return p.given
}

func (p *paper) free(n int) api.Errno {
	if p.looks[n] == nil {
		return api.ErrKey
	}
	delete(p.looks, n)
	return api.OK
}

// wantGet asks for a key's value, now (n is 0) or at a look back.
func wantGet(t *testing.T, s *Store, c contents, n int, key string) {
	t.Helper()
	value, ok := c[key]
	got, there, err := s.Get(key)
	if n > 0 {
		got, there, err = s.GetAt(n, key)
	}
	if err != api.OK || there != ok || got != value {
		t.Fatalf("Get of %q at %d: %q, %v, error %d, not %q, %v", key, n, got, there, err, value, ok)
	}
}

// wantScan asks for a range, now (n is 0) or at a look back.
func wantScan(t *testing.T, s *Store, c contents, n int, from, to string) {
	t.Helper()
	list, err := s.Scan(from, to)
	if n > 0 {
		list, err = s.ScanAt(n, from, to)
	}
	if right := c.scan(from, to); err != api.OK || !slices.Equal(list, right) {
		t.Fatalf("Scan from %q to %q at %d: %s error %d, not %s", from, to, n, shown(list), err, shown(right))
	}
}

// anyKey: some are beginnings of others, and some stand just ahead of others or just behind.
func anyKey(source *rand.Rand) string {
	keys := []string{"", "\x00", "a", "a\x00", "aa", "ab", "b", "b\xff", "c", "key", "key1", "key10", "key2", "\xfe", "\xff", "\xff\xff"}
	return keys[source.Intn(len(keys))]
}

func anyValue(source *rand.Rand) string {
	value := make([]byte, source.Intn(4))
	source.Read(value)
	return string(value)
}

// anyBatch: keys come several times, with values and dead in turn; dead ops have values too, which nobody sees.
func anyBatch(source *rand.Rand) []api.Op {
	ops := make([]api.Op, source.Intn(5))
	if source.Intn(20) == 0 {
		ops = make([]api.Op, 20)
	}
	for i := range ops {
		ops[i] = api.Op{Key: anyKey(source), Dead: source.Intn(3) == 0, Value: anyValue(source)}
	}
	if source.Intn(30) == 0 {
		ops = append(ops, set(anyKey(source), strings.Repeat("v", 4000+source.Intn(160))))
	}
	return ops
}

// wantLikePaper asks a few things of the store, and of each look back, at keys by chance.
func wantLikePaper(t *testing.T, s *Store, p *paper, source *rand.Rand) {
	t.Helper()
	wantGet(t, s, p.now, 0, anyKey(source))
	wantScan(t, s, p.now, 0, anyKey(source), anyKey(source))
	wantScan(t, s, p.now, 0, "", "")
	for n := -1; n <= p.given+1; n++ {
		if c := p.looks[n]; c != nil {
			wantGet(t, s, c, n, anyKey(source))
			wantScan(t, s, c, n, anyKey(source), anyKey(source))
			wantScan(t, s, c, n, "", "")
		} else {
			wantNoLook(t, s, n)
		}
	}
}

// wantNoLook: the number has no look back.
func wantNoLook(t *testing.T, s *Store, n int) {
	t.Helper()
	if value, ok, err := s.GetAt(n, "a"); value != "" || ok || err != api.ErrKey {
		t.Fatalf("GetAt of %d, which isn't there: %q, %v, error %d", n, value, ok, err)
	}
	if list, err := s.ScanAt(n, "", ""); list != nil || err != api.ErrKey {
		t.Fatalf("ScanAt of %d, which isn't there: %s error %d", n, shown(list), err)
	}
	want(t, "Free of one that isn't there", s.Free(n), api.ErrKey)
}

func opened(t *testing.T, f *vfs.FS, setting api.Setting) *Store {
	t.Helper()
	s, err := Open(f, setting)
	if err != api.OK || s == nil {
		t.Fatalf("Open: error %d", err)
	}
	return s
}

// smallest: a store that writes out and merges at each batch.
func smallest() api.Setting { return api.Setting{MemMax: 1, Fan: 1} }

func anySetting(source *rand.Rand) api.Setting {
	heights := make([]int, source.Intn(4))
	for i := range heights {
		heights[i] = source.Intn(20) - 5
	}
	return api.Setting{MemMax: source.Intn(12) - 1, Fan: source.Intn(5) - 1, Heights: heights}
}

// call is one that may change a store's files.
type call struct {
	kind string
	ops  []api.Op
	n    int
}

// on does the call; Snap has no error.
func (c call) on(s *Store) api.Errno {
	switch c.kind {
	case "Write":
		return s.Write(c.ops...)
	case "Flush":
		return s.Flush()
	case "Compact":
		return s.Compact()
	case "Free":
		return s.Free(c.n)
	}
	s.Snap()
	return api.OK
}

// onPaper is the same without fates.
func (c call) onPaper(p *paper) api.Errno {
	switch c.kind {
	case "Write":
		return p.write(c.ops)
	case "Free":
		return p.free(c.n)
	case "Snap":
		p.snap()
	}
	return api.OK
}

func anyCall(source *rand.Rand) call {
	kind := "Write"
	switch n := source.Intn(20); {
	case n < 2:
		kind = "Flush"
	case n < 3:
		kind = "Compact"
	case n < 5:
		kind = "Snap"
	case n < 7:
		kind = "Free"
	}
	return call{kind, anyBatch(source), source.Intn(9) - 1}
}

func anyRow(source *rand.Rand, size int) []call {
	row := make([]call, size)
	for i := range row {
		row[i] = anyCall(source)
	}
	return row
}

// told: all that can be seen of a file system.
func told(f *vfs.FS) string {
	names, _ := f.List()
	text := fmt.Sprintf("acts %d, down %v", f.Acts(), f.Down())
	for _, name := range names {
		kept, _ := f.Read(name)
		text += fmt.Sprintf("; %q: %q", name, kept)
	}
	return text
}

// each: the same number for all files of a Crash.
func each(keep int) []int { return slices.Repeat([]int{keep}, 100) }

func all() []int { return each(math.MaxInt) }

func anyKeep(source *rand.Rand) []int {
	keep := make([]int, source.Intn(12))
	for i := range keep {
		keep[i] = source.Intn(60) - 3
		if source.Intn(3) == 0 {
			keep[i] = math.MaxInt
		}
	}
	return keep
}
