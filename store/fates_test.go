package store

import (
	"fmt"
	"maps"
	"math/rand"
	"strings"
	"testing"

	"tarmac/api"
	"tarmac/manifest"
	"tarmac/vfs"
	"tarmac/wal"
)

// outcome is what a row of calls comes to when the power goes in one of them: the contents behind those that were answered by
// OK, and the same with the batch under way.
type outcome struct {
	sure, underway contents
	down           bool
	refused        map[string]int // by kind, how many were answered by ErrSpace
}

// play opens a store, and does the row's calls till one is answered by ErrDown.
func play(t *testing.T, f *vfs.FS, setting api.Setting, row []call) outcome {
	t.Helper()
	p, refused := newPaper(), map[string]int{}
	s, err := Open(f, setting)
	for err == api.ErrSpace {
		refused["Open"]++
		s, err = Open(f, setting)
	}
	if err == api.ErrDown {
		wantNoStore(t, s)
		return outcome{p.now, p.now, true, refused}
	}
	want(t, "Open", err, api.OK)
	for _, c := range row {
		was, err := p.now, c.on(s)
		if err == api.ErrSpace && (c.kind == "Write" || c.kind == "Flush" || c.kind == "Compact") {
			refused[c.kind]++
			continue
		}
		right := c.onPaper(p)
		if err == api.ErrDown {
			wantDown(t, s, p)
			return outcome{was, p.now, true, refused}
		}
		want(t, c.kind, err, right)
	}
	return outcome{p.now, p.now, false, refused}
}

func wantNoStore(t *testing.T, s *Store) {
	t.Helper()
	if s != nil {
		t.Fatal("a store beside an error")
	}
}

// wantDown asks each call of a store that is down. Its looks back are still given, and go.
func wantDown(t *testing.T, s *Store, p *paper) {
	t.Helper()
	for range 2 {
		if !s.Down() {
			t.Fatal("a store that isn't down")
		}
		want(t, "Write", s.Write(set("a", "1")), api.ErrDown)
		want(t, "Write of none", s.Write(), api.ErrDown)
		want(t, "Write above the limit", s.Write(set("a", strings.Repeat("v", 5000))), api.ErrDown)
		want(t, "Flush", s.Flush(), api.ErrDown)
		want(t, "Compact", s.Compact(), api.ErrDown)
		for n := -1; n <= p.given+1; n++ {
			if value, ok, err := s.GetAt(n, "a"); value != "" || ok || err != api.ErrDown {
				t.Fatalf("GetAt: %q, %v, error %d", value, ok, err)
			}
			if list, err := s.ScanAt(n, "", ""); list != nil || err != api.ErrDown {
				t.Fatalf("ScanAt: %s error %d", shown(list), err)
			}
		}
		if value, ok, err := s.Get("a"); value != "" || ok || err != api.ErrDown {
			t.Fatalf("Get: %q, %v, error %d", value, ok, err)
		}
		if list, err := s.Scan("", ""); list != nil || err != api.ErrDown {
			t.Fatalf("Scan: %s error %d", shown(list), err)
		}
		if n, right := s.Snap(), p.snap(); n != right {
			t.Fatalf("Snap: %d, not %d", n, right)
		}
		for n := -1; n <= p.given+1; n += 2 {
			want(t, "Free", s.Free(n), p.free(n))
		}
	}
}

// keeps: ways of keeping the bytes that weren't synced.
func keeps(source *rand.Rand) [][]int {
	return [][]int{nil, each(1), each(9), anyKeep(source), all()}
}

// contentsOf opens what was found, and asks whether nothing is left over behind that.
func contentsOf(t *testing.T, f *vfs.FS, setting api.Setting) contents {
	t.Helper()
	s := opened(t, f, setting)
	list, err := s.Scan("", "")
	want(t, "Scan", err, api.OK)
	wantTidy(t, f, s)
	return contents{}.with(list...)
}

// wantTidy: a store's files are one of each kind, and the tables that it has.
func wantTidy(t *testing.T, f *vfs.FS, s *Store) {
	t.Helper()
	names, _ := f.List()
	kinds := ""
	for _, name := range names {
		if _, _, ok := manifest.Parse(name); ok || strings.HasPrefix(name, "CURRENT") {
			kinds += name[:1]
		}
	}
	if kinds != "Cm"+strings.Repeat("t", len(s.tables))+"w" {
		t.Fatalf("the files are %q; the store has %d tables", names, len(s.tables))
	}
}

func wantContents(t *testing.T, what string, got, right contents) {
	t.Helper()
	if !maps.Equal(got, right) {
		t.Fatalf("%s: %s not %s", what, shown(got.scan("", "")), shown(right.scan("", "")))
	}
}

// wantFound opens what a crash left; then it opens it with the power going at each act, and again behind that.
func wantFound(t *testing.T, f *vfs.FS, o outcome, setting api.Setting, source *rand.Rand) {
	t.Helper()
	found := contentsOf(t, f.Crash(), setting)
	if !maps.Equal(found, o.underway) {
		wantContents(t, "found behind the crash", found, o.sure)
	}
	for at := range 1000 {
		for _, kind := range []int{before, after} {
			g := f.Crash()
			g.Arm(fate(at, kind))
			s, err := Open(g, setting)
			if err == api.OK {
				wantGoesOn(t, s, g, found, setting)
				return
			}
			want(t, "Open", err, api.ErrDown)
			wantNoStore(t, s)
			h := g.Crash(anyKeep(source)...)
			wantContents(t, "found behind an opening that was cut off", contentsOf(t, h.Crash(), setting), found)
			h.Arm(fate(source.Intn(9), kind))
			_, _ = Open(h, setting)
			wantContents(t, "found behind two of them", contentsOf(t, h.Crash(anyKeep(source)...), setting), found)
		}
	}
	t.Fatal("an opening without end")
}

// wantGoesOn: what was found can be written to, and has what is written behind the next crash.
func wantGoesOn(t *testing.T, s *Store, f *vfs.FS, found contents, setting api.Setting) {
	t.Helper()
	f.Arm()
	more := []api.Op{set("a", "more"), dead("b"), set("more", "a")}
	want(t, "Write", s.Write(more...), api.OK)
	wantContents(t, "behind a batch more", contentsOf(t, f.Crash(), setting), found.with(more...))
}

// sights: what is to be seen of a crash.
func sights(f *vfs.FS) []string {
	var list []string
	names, _ := f.List()
	logs, tables := 0, 0
	for _, name := range names {
		letter, _, _ := manifest.Parse(name)
		if log, _, _ := wal.Open(f, name); log.Torn() && letter != 't' && letter != 0 {
			list = append(list, "a torn "+name[:1])
		}
		switch letter {
		case 'w':
			logs++
		case 't':
			tables++
		}
	}
	name, err := f.Read("CURRENT")
	if err != api.OK && len(names) > 0 {
		list = append(list, "files without CURRENT")
	}
	if logs > 1 {
		list = append(list, "logs left over")
	}
	text, _ := f.Read(name)
	if version, _ := manifest.Read(text); tables > len(version.Files) {
		list = append(list, "tables left over")
	}
	return list
}

func fewSettings() []api.Setting {
	return []api.Setting{smallest(), {MemMax: 2, Fan: 2, Heights: []int{1, 0, 3}}, {MemMax: 5, Fan: 1}, {MemMax: 1000, Fan: 3}}
}

// P12.2: the power goes at each act of a row of calls, ahead of it and behind it, and at each act of the openings behind that.
func TestPowerGoesAtEachAct(t *testing.T) {
	source := rand.New(rand.NewSource(16))
	seen := map[string]int{}
	for _, setting := range fewSettings() {
		row, at, down := anyRow(source, 10), 0, true
		row = append(row, call{kind: "Flush"}, call{kind: "Write", ops: pairs("z", "1", "a", "2")}, call{kind: "Compact"}, call{kind: "Write", ops: pairs("z", "2")})
		for ; down; at++ {
			for _, kind := range []int{before, after} {
				f := vfs.New()
				f.Arm(fate(at, kind))
				o := play(t, f, setting, row)
				down = o.down
				for _, keep := range keeps(source) {
					found := f.Crash(keep...)
					for _, sight := range sights(found) {
						seen[sight]++
					}
					wantFound(t, found, o, setting, source)
				}
			}
		}
		if at < 40 {
			t.Errorf("%d acts: the row says too little", at)
		}
	}
	for _, sight := range []string{"a torn w", "a torn m", "files without CURRENT", "logs left over", "tables left over"} {
		if seen[sight] < 10 {
			t.Errorf("%s came %d times: the rows say too little", sight, seen[sight])
		}
	}
}

// P12.2: a batch of several ops that is cut off at each of its bytes is there wholly or not at all, and what is written next lasts.
func TestBatchWhollyOrNotAtAll(t *testing.T) {
	ops := []api.Op{set("a", "1"), dead("b"), set("c", "3"), set("a", "4"), set("d", strings.Repeat("v", 100))}
	old := contents{"b": "old", "c": "old"}
	for _, setting := range fewSettings() {
		f := vfs.New()
		s := opened(t, f, setting)
		want(t, "Write", s.Write(pairs("b", "old", "c", "old")...), api.OK)
		f.Arm(fate(0, after)) // the log's own bytes, not synced
		want(t, "Write", s.Write(ops...), api.ErrDown)
		whole := 0
		for keep := range 1000 {
			found := contentsOf(t, f.Crash(each(keep)...), setting)
			if len(found) == len(old) {
				wantContents(t, "a batch that was cut off", found, old)
				if whole > 0 {
					t.Fatalf("there with %d bytes, and not with %d", keep-1, keep)
				}
			} else {
				wantContents(t, "a batch that is whole", found, old.with(ops...))
				whole++
			}
			g := f.Crash(each(keep)...)
			wantGoesOn(t, opened(t, g, setting), g, found, setting)
		}
		if whole == 0 || whole > 900 {
			t.Errorf("%d of 1000 had the batch", whole)
		}
	}
}

// P12.2, P12.3: again and again, with fates of all kinds, in calls and in openings.
func TestAgainAndAgain(t *testing.T) {
	source := rand.New(rand.NewSource(17))
	refused, downs := map[string]int{}, 0
	for range 150 {
		f, now := vfs.New(), contents{}
		for range 25 {
			f.Arm(anyFates(source)...)
			s, err := Open(f, anySetting(source))
			for err == api.ErrSpace {
				refused["Open"]++
				s, err = Open(f, anySetting(source))
			}
			o := outcome{sure: now, underway: now, refused: refused}
			if err == api.OK {
				wantScan(t, s, now, 0, "", "")
				o = goOn(t, s, now, anyRow(source, 8), refused)
			}
			if o.down || err != api.OK {
				downs++
			}
			f = f.Crash(anyKeep(source)...)
			now = contentsOf(t, f.Crash(), anySetting(source))
			if !maps.Equal(now, o.underway) {
				wantContents(t, "found", now, o.sure)
			}
		}
	}
	if downs < 1000 || refused["Open"] < 20 || refused["Write"] < 200 || refused["Flush"] < 20 || refused["Compact"] < 20 {
		t.Errorf("%d times down, refused %v: the rows say too little", downs, refused)
	}
}

// goOn does the row's calls on a store that has some contents, till one is answered by ErrDown.
func goOn(t *testing.T, s *Store, now contents, row []call, refused map[string]int) outcome {
	t.Helper()
	p := newPaper()
	p.now = now
	for _, c := range row {
		was, err := p.now, c.on(s)
		if err == api.ErrSpace {
			refused[c.kind]++
			wantScan(t, s, p.now, 0, "", "")
			continue
		}
		right := c.onPaper(p)
		if err == api.ErrDown {
			return outcome{was, p.now, true, refused}
		}
		want(t, c.kind, err, right)
		wantScan(t, s, p.now, 0, "", "")
	}
	return outcome{p.now, p.now, false, refused}
}

func anyFates(source *rand.Rand) []api.Fate {
	var fates []api.Fate
	for at := range 40 {
		if source.Intn(4) == 0 {
			fates = append(fates, fate(at, space))
		}
	}
	return append([]api.Fate{fate(source.Intn(60), before+source.Intn(2))}, fates...)
}

// full: no space at some acts in a row.
func full(at, length int) []api.Fate {
	var fates []api.Fate
	for i := range length {
		fates = append(fates, fate(at+i, space))
	}
	return fates
}

// P12.3: no space at each act of a row of calls, once and several times in a row: what is refused changes nothing, at once and
// behind every crash, and the store goes on. Where a batch is in the log and what comes behind it finds no space, it lasts.
func TestNoSpaceAtEachAct(t *testing.T) {
	source := rand.New(rand.NewSource(18))
	refused := map[string]int{}
	for _, setting := range fewSettings() {
		row := append(anyRow(source, 12), call{kind: "Flush"}, call{kind: "Write", ops: pairs("z", "1", "a", "2")}, call{kind: "Compact"})
		for _, length := range []int{1, 2, 3, 30} {
			for at, acts := 0, 1; at < acts; at++ {
				d := newDesk(t, setting)
				opening := d.f.Acts()
				d.f.Arm(full(at, length)...)
				for _, c := range row {
					d.refusedOrDone(t, c, refused)
					if acts = d.f.Acts() - opening; at < acts && acts <= at+length+6 {
						wantContents(t, "behind a crash", contentsOf(t, d.f.Crash(anyKeep(source)...), setting), d.p.now)
					}
				}
				wantLikePaper(t, d.s, d.p, source)
				d.f.Arm()
				want(t, "Flush when there is space", d.s.Flush(), api.OK)
				want(t, "Compact when there is space", d.s.Compact(), api.OK)
				wantLikePaper(t, d.s, d.p, source)
				wantTidy(t, d.f, d.s)
				wantContents(t, "behind a crash at the end", contentsOf(t, d.f.Crash(), setting), d.p.now)
			}
		}
	}
	if refused["Write"] < 100 || refused["Flush"] < 10 || refused["Compact"] < 10 || refused["put off"] < 100 {
		t.Errorf("refused: %v: the rows say too little", refused)
	}
}

// refusedOrDone: a call that is refused for want of space changes nothing, and leaves nothing over.
func (d *desk) refusedOrDone(t *testing.T, c call, refused map[string]int) {
	t.Helper()
	if c.kind == "Snap" || c.kind == "Free" {
		d.call(t, c)
		return
	}
	err := c.on(d.s)
	if err == api.ErrSpace {
		refused[c.kind]++
		wantTidy(t, d.f, d.s)
	} else {
		want(t, c.kind, err, c.onPaper(d.p))
	}
	if err == api.OK && c.kind == "Write" && d.s.memory.Len() >= d.s.memMax {
		refused["put off"]++
	}
	wantScan(t, d.s, d.p.now, 0, "", "")
}

// P12.3: a batch for which there is no space leaves the file system as it was, and may be tried again.
func TestNoSpaceForBatch(t *testing.T) {
	for _, setting := range fewSettings() {
		f := vfs.New()
		s := opened(t, f, setting)
		c := contents{"a": "1"}
		want(t, "Write", s.Write(set("a", "1")), api.OK)
		n := s.Snap()
		names, _ := f.List()
		was := fmt.Sprint(names)
		f.Arm(full(0, 20)...)
		for range 3 {
			want(t, "Write", s.Write(set("a", "2"), set("b", "2")), api.ErrSpace)
			wantScan(t, s, c, 0, "", "")
			wantScan(t, s, c, n, "", "")
			wantContents(t, "behind a crash", contentsOf(t, f.Crash(all()...), setting), c)
		}
		if names, _ := f.List(); fmt.Sprint(names) != was || s.Down() {
			t.Errorf("files %q, not %s; down %v", names, was, s.Down())
		}
		want(t, "Write above the limit", s.Write(set("a", strings.Repeat("v", 5000))), api.ErrLong)
		want(t, "Write of none", s.Write(), api.OK)
		f.Arm()
		want(t, "Write", s.Write(set("a", "2"), set("b", "2")), api.OK)
		wantScan(t, s, c, n, "", "")
		wantContents(t, "behind a crash", contentsOf(t, f.Crash(), setting), contents{"a": "2", "b": "2"})
	}
}

// P12.3: Flush and Compact without space at one act: what is answered by OK was done, and what wasn't can be done later.
func TestNoSpaceForFlushAndCompact(t *testing.T) {
	for _, kind := range []string{"Flush", "Compact"} {
		errs := map[api.Errno]int{}
		for at := range 16 {
			f := vfs.New()
			s := opened(t, f, api.Setting{MemMax: 1, Fan: 1000})
			want(t, "Write", s.Write(set("a", "1")), api.OK)
			want(t, "Write", s.Write(set("b", "2")), api.OK)
			s = opened(t, f, api.Setting{MemMax: 1000, Fan: 2}) // there are two upper tables already
			want(t, "Write", s.Write(dead("a"), set("c", "3")), api.OK)
			f.Arm(full(at, 1)...)
			err := call{kind: kind}.on(s)
			if errs[err]++; err == api.OK && (s.memory.Len() > 0 || kind == "Compact" && s.tablesOf(upper) > 0) {
				t.Errorf("%s without space at %d: %d versions in memory, %d upper tables", kind, at, s.memory.Len(), s.tablesOf(upper))
			}
			if err == api.ErrSpace && kind == "Flush" && s.memory.Len() != 2 {
				t.Errorf("%s without space at %d: %d versions in memory", kind, at, s.memory.Len())
			}
			for range 2 {
				wantScan(t, s, contents{"b": "2", "c": "3"}, 0, "", "")
				wantTidy(t, f, s)
				want(t, kind, call{kind: kind}.on(s), api.OK)
			}
			if s.tablesOf(upper) > 0 || s.memory.Len() > 0 {
				t.Errorf("%s again: %d versions in memory, %d upper tables", kind, s.memory.Len(), s.tablesOf(upper))
			}
		}
		if errs[api.OK] < 6 || errs[api.ErrSpace] < 3 || len(errs) > 2 {
			t.Errorf("%s: by errors %v", kind, errs)
		}
	}
}

// P12.3: no space at each act of an opening, once and several times in a row: it may be tried again, and nothing is lost.
func TestNoSpaceInOpening(t *testing.T) {
	source := rand.New(rand.NewSource(19))
	tries := 0
	for _, setting := range fewSettings() {
		row, down := anyRow(source, 9), true
		for at := 0; down; at += 1 + source.Intn(3) {
			f := vfs.New()
			f.Arm(fate(at, after))
			down = play(t, f, setting, row).down
			f = f.Crash(each(source.Intn(15))...)
			found := contentsOf(t, f.Crash(), setting)
			for _, length := range []int{1, 2, 9} {
				for at := range 14 {
					g := f.Crash()
					g.Arm(full(at, length)...)
					s, err := Open(g, setting)
					for ; err == api.ErrSpace; tries++ {
						wantNoStore(t, s)
						wantContents(t, "behind a crash", contentsOf(t, g.Crash(anyKeep(source)...), setting), found)
						s, err = Open(g, setting)
					}
					want(t, "Open", err, api.OK)
					wantScan(t, s, found, 0, "", "")
					wantTidy(t, g, s)
					wantGoesOn(t, s, g, found, setting)
				}
			}
		}
	}
	if tries < 300 {
		t.Errorf("%d tries found no space: the rows say too little", tries)
	}
}

// P12.2, P12.3: no space at some acts, and then the power goes.
func TestNoSpaceAndPower(t *testing.T) {
	source := rand.New(rand.NewSource(20))
	for _, setting := range fewSettings() {
		row, down := anyRow(source, 10), true
		for at := 0; down; at++ {
			down = false
			for _, kind := range []int{before, after} {
				for _, length := range []int{1, 2, 5, 12} {
					f := vfs.New()
					f.Arm(append(full(at-length, length), fate(at, kind))...)
					o := play(t, f, setting, row)
					down = down || o.down
					for _, keep := range keeps(source) {
						found := contentsOf(t, f.Crash(keep...), setting)
						if !maps.Equal(found, o.underway) {
							wantContents(t, "found behind the crash", found, o.sure)
						}
					}
				}
			}
		}
	}
}

// P12.1, P12.2: the power of the files may go when the store does nothing, and a store isn't opened on files that are down.
func TestPowerGoesElsewhere(t *testing.T) {
	everywhere(t, func(t *testing.T, s *Store) {
		p := newPaper()
		want(t, "Write", s.Write(set("a", "1")), p.write(pairs("a", "1")))
		s.Snap()
		p.snap()
		s.files.Arm(fate(0, before))
		want(t, "Append", s.files.Append("elsewhere"), api.ErrDown)
		wantDown(t, s, p)
		for range 2 {
			other, err := Open(s.files, api.Setting{})
			want(t, "Open", err, api.ErrDown)
			wantNoStore(t, other)
		}
		wantScan(t, opened(t, s.files.Crash(), api.Setting{}), p.now, 0, "", "")
	})
}
