package store

import (
	"fmt"
	"maps"
	"math"
	"math/rand"
	"slices"
	"strings"
	"testing"

	"tarmac/api"
	"tarmac/frame"
	"tarmac/manifest"
	"tarmac/table"
	"tarmac/vfs"
)

// laid: a file system with these files, of which nothing is synced.
func laid(files map[string]string) *vfs.FS {
	f := vfs.New()
	for name, text := range files {
		f.Append(name, text)
	}
	return f
}

// texts: the files' names and bytes.
func texts(f *vfs.FS) map[string]string {
	files := map[string]string{}
	names, _ := f.List()
	for _, name := range names {
		files[name], _ = f.Read(name)
	}
	return files
}

func sealed(payloads ...string) string {
	text, err := frame.Seal(payloads...)
	if err != api.OK {
		panic("a payload that is too long")
	}
	return text
}

func edits(list ...api.Edit) string {
	text := ""
	for _, e := range list {
		payload, err := manifest.Encode(e)
		if err != api.OK {
			panic("no right edit")
		}
		text += sealed(payload)
	}
	return text
}

func built(versions ...api.Entry) string {
	text, err := table.Build(versions...)
	if err != api.OK {
		panic("no right table")
	}
	return text
}

func version(key string, seq int, value string) api.Entry {
	return api.Entry{Key: key, Seq: seq, Value: value}
}

// wantRefused: Open answers ErrStore, and leaves all files as they are.
func wantRefused(t *testing.T, what string, f *vfs.FS) {
	t.Helper()
	was := told(f)
	for range 2 {
		s, err := Open(f, smallest())
		if err != api.ErrStore || s != nil {
			t.Fatalf("%s: Open: error %d", what, err)
		}
	}
	if now := told(f); now != was {
		t.Fatalf("%s: %s\nis now\n%s", what, was, now)
	}
}

// wantOpenOrRefused: if it is opened its contents are one of these, and it is a store like others, whose contents last.
func wantOpenOrRefused(t *testing.T, what string, f *vfs.FS, right ...contents) api.Errno {
	t.Helper()
	was := f.Crash(all()...)
	s, err := Open(f, api.Setting{MemMax: 3, Fan: 2})
	if err != api.OK {
		wantRefused(t, what, was)
		return err
	}
	list, _ := s.Scan("", "")
	found := contents{}.with(list...)
	if !slices.ContainsFunc(right, func(c contents) bool { return maps.Equal(c, found) }) {
		t.Fatalf("%s: opened with %s", what, shown(list))
	}
	wantContents(t, what+": behind a crash", contentsOf(t, f.Crash(), smallest()), found)
	p := newPaper()
	p.now = found
	for i := range 8 {
		ops := []api.Op{set("more", fmt.Sprint(i)), dead("a"), set(fmt.Sprint(i), "")}
		want(t, what+": Write", s.Write(ops...), p.write(ops))
		if n, right := s.Snap(), p.snap(); n != right {
			t.Fatalf("%s: Snap: %d", what, n)
		}
	}
	wantLikePaper(t, s, p, rand.New(rand.NewSource(1)))
	want(t, what+": Compact", s.Compact(), api.OK)
	wantLikePaper(t, s, p, rand.New(rand.NewSource(2)))
	wantContents(t, what+": at last", contentsOf(t, f.Crash(), smallest()), p.now)
	return api.OK
}

// grown: the files of a store with tables of both levels, a manifest of several edits, and batches in its log; the last
// contents, and those behind each beginning of the log.
func grown(t *testing.T) (map[string]string, []contents) {
	t.Helper()
	f := vfs.New()
	s := opened(t, f, api.Setting{MemMax: 1000, Fan: 1000})
	c := contents{}
	write := func(ops ...api.Op) {
		want(t, "Write", s.Write(ops...), api.OK)
		c = c.with(ops...)
	}
	write(pairs("a", "1", "b", "2", "c", "3")...)
	want(t, "Compact", s.Compact(), api.OK)
	write(dead("a"), set("d", "4"))
	want(t, "Flush", s.Flush(), api.OK)
	write(set("b", "5"))
	want(t, "Flush", s.Flush(), api.OK)
	states := []contents{c}
	for i := range 3 {
		write(set("c", fmt.Sprint("log", i)), set(fmt.Sprint("k", i), ""))
		states = append(states, c)
	}
	if s.tablesOf(lower) != 1 || s.tablesOf(upper) != 2 || s.log.Count() != 3 || s.list.Count() < 3 {
		t.Fatalf("the store isn't grown: %v, %d edits", s.version, s.list.Count())
	}
	return texts(f), states
}

// spoilt: other texts in the place of one: cut off at each place, with a byte changed, with bytes behind it, and quite others.
func spoilt(text string, others map[string]string) []string {
	var list []string
	for i := range len(text) {
		for _, flip := range []byte{1, 0x80} {
			bytes := []byte(text)
			bytes[i] ^= flip
			list = append(list, string(bytes))
		}
		list = append(list, text[:i])
	}
	for _, other := range slices.Sorted(maps.Values(others)) {
		list = append(list, text+other, other)
	}
	return append(list, text+"x", text+"\x00", text+sealed(""), text+sealed("x"), "x"+text, "\x00", strings.Repeat("\xff", 100))
}

// R1, P12.1: one file of a store is changed, or missing: Open refuses, or it tells what the store had; of a log, its beginning.
func TestSpoiltFiles(t *testing.T) {
	files, states := grown(t)
	whole := states[len(states)-1:]
	if err := wantOpenOrRefused(t, "as it was", laid(files), whole...); err != api.OK {
		t.Fatalf("as it was: error %d", err)
	}
	opens := map[byte]int{}
	for name, text := range files {
		right := whole
		if name[0] == 'w' {
			right = states
		}
		for i, other := range spoilt(text, files) {
			if other == text {
				continue
			}
			changed := maps.Clone(files)
			changed[name] = other
			if wantOpenOrRefused(t, fmt.Sprintf("%s spoilt (%d)", name, i), laid(changed), right...) == api.OK {
				opens[name[0]]++
			}
		}
		missing := maps.Clone(files)
		delete(missing, name)
		wantRefused(t, name+" missing", laid(missing))
	}
	if opens['w'] == 0 || opens['m'] == 0 || opens['t'] > 0 || opens['C'] > 0 {
		t.Errorf("opened, by the first letter of what was spoilt: %v", opens)
	}
}

// handLaid: a store's files, as they are laid here by hand: CURRENT, a manifest, two tables, a log.
func handLaid() map[string]string {
	return map[string]string{
		"CURRENT": "m4",
		"m4": edits(
			api.Edit{Add: []api.File{{Level: 1, N: 1}}, Wal: 2, Next: 5, Seq: 2},
			api.Edit{Add: []api.File{{Level: 0, N: 5}}, Wal: 6, Next: 7, Seq: 4}),
		"t1": built(version("a", 1, "1"), version("b", 2, "2")),
		"t5": built(api.Entry{Key: "a", Seq: 3, Dead: true}, version("c", 4, "3")),
		"w6": sealed(built(version("d", 5, "4")), built(version("b", 6, "5"), version("e", 6, "6"))),
	}
}

// P12.1: a right store that is laid by hand, so that the wrong ones below are known to be refused for the one thing that is wrong.
func TestHandLaid(t *testing.T) {
	right := contents{"b": "5", "c": "3", "d": "4", "e": "6"}
	if err := wantOpenOrRefused(t, "laid by hand", laid(handLaid()), right); err != api.OK {
		t.Fatalf("error %d", err)
	}
	full := handLaid()
	full["t3"], full["w2"], full["m3"], full["CURRENT.new"], full["t77"], full["w7"] = "left over", "left over", "", "m", "", "x"
	if err := wantOpenOrRefused(t, "laid by hand, with what is left over", laid(full), right); err != api.OK {
		t.Fatalf("error %d", err)
	}
}

// wrongLists: manifests that no store leaves, for the files that are laid by hand.
func wrongLists() map[string]string {
	first := api.Edit{Add: []api.File{{Level: 1, N: 1}}, Wal: 2, Next: 5, Seq: 2}
	last := func(wal, next, seq int) string {
		return edits(first, api.Edit{Add: []api.File{{Level: 0, N: 5}}, Wal: wal, Next: next, Seq: seq})
	}
	return map[string]string{
		"no bytes":               "",
		"no frame":               "m4m4m4m4",
		"a frame of no edit":     sealed("x"),
		"no log":                 last(0, 7, 4),
		"a log that isn't there": last(7, 8, 4),
		"the log not below Next": last(6, 6, 4),
		"Next far too great":     last(6, math.MaxInt, 4),
		"Seq far too great":      last(6, 7, math.MaxInt),
		"Seq below a table's":    last(6, 7, 3),
		"Seq above the log's":    last(6, 7, 5),
		"cut off":                edits(first),
		"its own number is next": edits(api.Edit{Wal: 2, Next: 4, Seq: 4}),
	}
}

// wrongLogs: those that no store leaves, for the files that are laid by hand.
func wrongLogs() map[string]string {
	first := built(version("d", 5, "4"))
	return map[string]string{
		"no table":           sealed("x"),
		"no bytes":           sealed(""),
		"no versions":        sealed(built()),
		"a late beginning":   sealed(built(version("d", 6, "4"))),
		"an early beginning": sealed(built(version("d", 4, "4")), first),
		"one twice":          sealed(first, first),
		"a gap":              sealed(first, built(version("d", 7, "4"))),
		"two numbers":        sealed(built(version("d", 5, "4"), version("e", 6, "4"))),
		"a wrong one behind": sealed(first, "x"),
	}
}

func wrongTables() map[string]string {
	return map[string]string{
		"no bytes":                 "",
		"no table":                 "t5t5t5t5t5t5",
		"a table, and more":        built(version("c", 4, "3")) + "x",
		"number 0":                 built(version("c", 0, "3")),
		"below 0":                  built(version("c", math.MinInt, "3")),
		"above Seq":                built(version("c", 5, "3")),
		"far above Seq":            built(version("c", math.MaxInt, "3")),
		"a version of another one": built(version("a", 1, "other"), version("c", 4, "3")),
		"the same version":         built(version("b", 2, "2")),
	}
}

// P12.1, R1: files that are no store's are refused, and stay as they are.
func TestFilesOfNoStore(t *testing.T) {
	for name, wrong := range map[string]map[string]string{"m4": wrongLists(), "w6": wrongLogs(), "t5": wrongTables()} {
		for what, text := range wrong {
			files := handLaid()
			files[name], files["w0"] = text, files["w6"]
			wantRefused(t, name+": "+what, laid(files))
		}
	}
	files := handLaid()
	files["m7"], files["CURRENT"] = files["m4"], "m7"
	wantRefused(t, "the manifest not below Next", laid(files))
}

// P12.1, R1: a CURRENT that leads nowhere.
func TestCurrentOfNoStore(t *testing.T) {
	long := strings.Repeat("9", 30)
	for _, text := range []string{
		"", "m", "m1", "m5", "m04", "m+4", "m4\n", " m4", "M4", "m-4", "m0", "4", "t1", "t5", "t6", "w6", "w3", "CURRENT", "notes", "nothing",
		"m" + long, strings.Repeat("m4", 1000), "\x00", "\xff\xff", sealed("m4"), handLaid()["m4"],
	} {
		files := handLaid()
		files["CURRENT"] = text
		for _, name := range []string{"notes", "m0", "m04", "m+4", "m" + long, "t6", "w3"} {
			files[name] = files["m4"]
		}
		wantRefused(t, fmt.Sprintf("CURRENT is %.50q", text), laid(files))
		wantRefused(t, fmt.Sprintf("CURRENT alone is %.50q", text), laid(map[string]string{"CURRENT": text}))
	}
}

// P12.1: without CURRENT a store is empty, if the files are at most those that a first opening leaves. What a store lost
// isn't cleared away.
func TestFilesWithoutCurrent(t *testing.T) {
	for _, names := range [][]string{{"w1"}, {"w1", "m2"}, {"m2"}, {"CURRENT.new"}, {"w1", "m2", "CURRENT.new"}} {
		files := map[string]string{}
		for _, name := range names {
			files[name] = "m2"
			if name == "w1" {
				files[name] = ""
			}
		}
		if err := wantOpenOrRefused(t, fmt.Sprint(names), laid(files), contents{}); err != api.OK {
			t.Errorf("%q: error %d", names, err)
		}
	}
	for name, text := range map[string]string{"w1": "x", "w2": "", "m1": "", "m3": "", "t1": "", "t2": "x", "w999": "", "m77": "x"} {
		wantRefused(t, name+" alone", laid(map[string]string{name: text}))
		wantRefused(t, name+" too", laid(map[string]string{"m2": "", "notes": "x", name: text}))
	}
}

// P12.1: files with names that no store gives stay as they are, and are nothing to a store.
func TestOtherFilesStay(t *testing.T) {
	others := map[string]string{"notes": "n", "t0": "", "t01": "x", "w-1": "w", "m+1": "m", "x1": "1", "T1": "t", "CURRENT2": "m1", "current": "m1"}
	f := laid(others)
	s := opened(t, f, smallest())
	for i := range 5 {
		want(t, "Write", s.Write(set("a", fmt.Sprint(i))), api.OK)
	}
	f = f.Crash(all()...)
	s = opened(t, f, smallest())
	want(t, "Compact", s.Compact(), api.OK)
	wantScan(t, s, contents{"a": "4"}, 0, "", "")
	found := texts(f)
	for name, text := range others {
		if kept, there := found[name]; !there || kept != text {
			t.Errorf("%q: %q, %v", name, kept, there)
		}
	}
	if len(found) != len(others)+4 {
		t.Errorf("files: %q", found)
	}
}

// anyText: sometimes something that a store could have.
func anyText(source *rand.Rand) string {
	seq := source.Intn(6)
	edit := api.Edit{Wal: source.Intn(4), Next: source.Intn(6), Seq: seq}
	for n := 1; n < edit.Next; n++ {
		if source.Intn(3) == 0 {
			edit.Add = append(edit.Add, api.File{Level: source.Intn(2), N: n})
		}
	}
	text := ""
	switch source.Intn(7) {
	case 0:
		text = edits(edit)
	case 1:
		text = edits(edit) + edits(api.Edit{Wal: source.Intn(4), Next: edit.Next, Seq: seq})
	case 2:
		text = built(version("a", seq, "1"))
	case 3:
		text = sealed(built(version(anyKey(source), seq, "2")))
	case 4:
		text = sealed(built(version("a", seq, "1"), version("b", seq, "2")), built(version("b", seq+1, "3")))
	case 5:
		text = fmt.Sprint("m", 1+source.Intn(3))
	}
	if source.Intn(8) == 0 {
		text = text[:source.Intn(len(text)+1)]
	}
	return text
}

// R1: any files: each answer is one that the chapter names. What is opened is a store like others.
func TestAnyFiles(t *testing.T) {
	source := rand.New(rand.NewSource(21))
	opens := 0
	for range 20000 {
		files := map[string]string{"CURRENT": fmt.Sprint("m", 1+source.Intn(3))}
		for _, letter := range []string{"t", "w", "m"} {
			for n := range 4 {
				files[fmt.Sprint(letter, n+1)] = anyText(source)
			}
		}
		for _, name := range []string{"CURRENT", "CURRENT.new", "notes"} {
			if source.Intn(10) == 0 {
				files[name] = anyText(source)
			}
		}
		f := laid(files)
		s, err := Open(f, smallest())
		if err != api.OK {
			wantRefused(t, "any files", laid(files))
			continue
		}
		opens++
		list, _ := s.Scan("", "")
		wantOpenOrRefused(t, "any files", laid(files), contents{}.with(list...))
	}
	if opens < 100 {
		t.Errorf("%d were opened: the files say too little", opens)
	}
}

// P12.2: what Open answers to have lasts, where somebody laid the files and didn't sync them.
func TestLaidFilesLast(t *testing.T) {
	files, states := grown(t)
	f := laid(files)
	s := opened(t, f, api.Setting{MemMax: 1000, Fan: 1000})
	c := states[len(states)-1]
	wantContents(t, "behind a crash", contentsOf(t, f.Crash(), smallest()), c)
	want(t, "Write", s.Write(set("more", "1")), api.OK)
	wantContents(t, "behind a crash", contentsOf(t, f.Crash(), smallest()), c.with(set("more", "1")))
}

// P11.2 of the store's own manifests: whatever the number of files, they are read as they were, and no beginning names a log.
func TestFromNothing(t *testing.T) {
	for _, count := range []int{0, 1, 2, 999, 1000, 1001, 2000, 20000} {
		v := api.Version{Wal: count + 1, Next: count + 3, Seq: 1 << 40}
		for n := range count {
			v.Files = append(v.Files, api.File{Level: 1, N: n + 1})
		}
		payloads, err := fromNothing(v)
		want(t, "fromNothing", err, api.OK)
		text := sealed(payloads...)
		read, end := manifest.Read(text)
		if end != len(text) || !slices.Equal(read.Files, v.Files) || read.Wal != v.Wal || read.Next != v.Next || read.Seq != v.Seq {
			t.Errorf("%d files: read %d of %d bytes: %d files, %d, %d, %d", count, end, len(text), len(read.Files), read.Wal, read.Next, read.Seq)
		}
		for i := range payloads {
			if read, _ := manifest.Read(sealed(payloads[:i]...)); read.Wal != 0 {
				t.Errorf("%d files: the first %d edits name the log", count, i)
			}
		}
	}
}

// P12.1, P12.5: more tables than one edit takes, and then an opening and a merge that begin the manifest anew.
func TestManyTables(t *testing.T) {
	f := vfs.New()
	setting := api.Setting{MemMax: 1, Fan: math.MaxInt}
	s := opened(t, f, setting)
	c := contents{}
	for i := range filesOfEdit + 50 {
		op := set(fmt.Sprint(i%700), fmt.Sprint(i))
		want(t, "Write", s.Write(op), api.OK)
		c = c.with(op)
	}
	want(t, "Append", f.Append(manifest.Log(s.version.Wal), "torn"), api.OK)
	f = f.Crash(all()...)
	s = opened(t, f, setting)
	if s.tablesOf(upper) != filesOfEdit+50 {
		t.Fatalf("%d tables", s.tablesOf(upper))
	}
	for _, what := range []string{"as it is", "merged"} {
		wantScan(t, s, c, 0, "", "")
		wantGet(t, s, c, 0, "699")
		wantContents(t, what, contentsOf(t, f.Crash(), setting), c)
		want(t, "Compact", s.Compact(), api.OK)
	}
}
