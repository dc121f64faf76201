package vfs

import (
	"fmt"
	"math/rand"
	"slices"
	"strings"
	"testing"

	"tarmac/api"
)

// paper is a file system on paper: each file a line of synced bytes and loose ones, the fates a list that is searched. It says the chapter's words by other means than the package's own.
type paper struct {
	lines []line
	fates []api.Fate
	since int // acts since the arming
	acts  int
	down  bool
}

type line struct{ name, synced, loose string }

func (p *paper) at(name string) int {
	return slices.IndexFunc(p.lines, func(l line) bool { return l.name == name })
}

// act answers whether the act has its effect, and its error.
func (p *paper) act(appends bool) (bool, api.Errno) {
	i := slices.IndexFunc(p.fates, func(x api.Fate) bool { return x.At == p.since })
	p.since++
	p.acts++
	if i < 0 {
		return true, api.OK
	}
	switch p.fates[i].Kind {
	case api.FateBefore:
		p.down = true
		return false, api.ErrDown
	case api.FateAfter:
		p.down = true
		return true, api.ErrDown
	case api.FateSpace:
		if appends {
			return false, api.ErrSpace
		}
	}
	return true, api.OK
}

// call does one call, and answers its error and whether it was an act.
func (p *paper) call(c call) (api.Errno, bool) {
	if p.down {
		return api.ErrDown, false
	}
	fresh := c.name
	if c.kind == callRename {
		fresh = c.to
	}
	if (c.kind == callAppend || c.kind == callRename) && (len(fresh) < 1 || len(fresh) > 40) {
		return api.ErrName, false
	}
	if c.kind != callAppend && p.at(c.name) < 0 {
		return api.ErrNoFile, false
	}
	happens, err := p.act(c.kind == callAppend)
	if happens {
		p.change(c)
	}
	return err, true
}

func (p *paper) change(c call) {
	if c.kind == callAppend && p.at(c.name) < 0 {
		p.lines = append(p.lines, line{name: c.name})
	}
	i := p.at(c.name)
	was := p.lines[i]
	switch c.kind {
	case callAppend:
		p.lines[i].loose += strings.Join(c.parts, "")
	case callSync:
		p.lines[i] = line{name: c.name, synced: was.synced + was.loose}
	case callRename:
		p.lines = slices.DeleteFunc(p.lines, func(l line) bool { return l.name == c.name || l.name == c.to })
		p.lines = append(p.lines, line{c.to, was.synced, was.loose})
	case callDelete:
		p.lines = slices.Delete(p.lines, i, i+1)
	}
	slices.SortFunc(p.lines, func(a, b line) int { return strings.Compare(a.name, b.name) })
}

func (p *paper) crash(keep []int) *paper {
	found := &paper{}
	for i, l := range p.lines {
		for kept := 0; i < len(keep) && kept < keep[i] && l.loose != ""; kept++ {
			l.synced, l.loose = l.synced+l.loose[:1], l.loose[1:]
		}
		found.lines = append(found.lines, line{name: l.name, synced: l.synced})
	}
	return found
}

func (p *paper) told() string {
	var text strings.Builder
	for _, l := range p.lines {
		text.WriteString(l.name + "=" + l.synced + l.loose + ";")
	}
	return text.String()
}

const (
	callAppend = iota
	callSync
	callRename
	callDelete
)

// call is one call of a row.
type call struct {
	kind     int
	name, to string
	parts    []string
}

func (c call) on(f *FS) api.Errno {
	switch c.kind {
	case callAppend:
		return f.Append(c.name, c.parts...)
	case callSync:
		return f.Sync(c.name)
	case callRename:
		return f.Rename(c.name, c.to)
	}
	return f.Delete(c.name)
}

func (c call) told() string {
	return fmt.Sprintf("call %d of %q, %q, parts %q", c.kind, c.name, c.to, c.parts)
}

func anyName(source *rand.Rand) string {
	names := []string{"a", "b", "c", "ab", "\xff", strings.Repeat("n", 40)}
	if source.Intn(12) == 0 {
		return wrongNames()[source.Intn(4)]
	}
	return names[source.Intn(len(names))]
}

func anyCall(source *rand.Rand) call {
	c := call{kind: callDelete, name: anyName(source), to: anyName(source)}
	switch n := source.Intn(10); {
	case n < 5:
		c.kind = callAppend
	case n < 7:
		c.kind = callSync
	case n < 9:
		c.kind = callRename
	}
	for range source.Intn(4) {
		part := make([]byte, source.Intn(4))
		source.Read(part)
		c.parts = append(c.parts, string(part))
	}
	return c
}

func anyRow(source *rand.Rand, size int) []call {
	row := make([]call, size)
	for i := range row {
		row[i] = anyCall(source)
	}
	return row
}

func anyFates(source *rand.Rand) []api.Fate {
	list := make([]api.Fate, source.Intn(8))
	for i := range list {
		list[i] = api.Fate{At: source.Intn(40) - 3, Kind: source.Intn(6) - 1}
		if source.Intn(2) == 0 {
			list[i].Kind = api.FateSpace
		}
	}
	return list
}

func anyKeep(source *rand.Rand) []int {
	list := make([]int, source.Intn(9))
	for i := range list {
		list[i] = source.Intn(12) - 2
	}
	return list
}

// wantAsPaper: what may be asked is answered as the paper says, and what a Crash finds too.
func wantAsPaper(t *testing.T, f *FS, p *paper, keep []int) {
	t.Helper()
	if f.Acts() != p.acts || f.Down() != p.down {
		t.Fatalf("acts %d, down %v; not %d, %v", f.Acts(), f.Down(), p.acts, p.down)
	}
	err := api.OK
	if p.down {
		err = api.ErrDown
	} else if got := told(f); got != p.told() {
		t.Fatalf("%q, not %q", got, p.told())
	}
	if _, got := f.List(); got != err {
		t.Fatalf("List: error %d, not %d", got, err)
	}
	if got, want := told(f.Crash(keep...)), p.crash(keep).told(); got != want {
		t.Fatalf("behind Crash(%v): %q, not %q", keep, got, want)
	}
}

// P4.1: in rows of calls by chance, the same in each run, each is answered as the paper says.
func TestRowsOfCalls(t *testing.T) {
	source := rand.New(rand.NewSource(4))
	crashes, downs, spaces := 0, 0, 0
	for range 300 {
		f, p := New(), &paper{}
		for range 120 {
			switch source.Intn(30) {
			case 0:
				fates := anyFates(source)
				f.Arm(fates...)
				p.fates, p.since = fates, 0
			case 1:
				keep := anyKeep(source)
				f, p = f.Crash(keep...), p.crash(keep)
				crashes++
			}
			c := anyCall(source)
			got, want := c.on(f), api.OK
			if want, _ = p.call(c); got != want {
				t.Fatalf("%s: error %d, not %d", c.told(), got, want)
			}
			if want == api.ErrSpace {
				spaces++
			} else if want == api.ErrDown {
				downs++
			}
			wantAsPaper(t, f, p, anyKeep(source))
		}
	}
	if crashes < 100 || downs < 100 || spaces < 100 {
		t.Errorf("%d crashes, %d times down, %d times no space: the rows say too little", crashes, downs, spaces)
	}
}

// P4.2: what was synced, and not deleted or replaced since, is found behind every Crash, at its file's beginning; what is found is a beginning of the file's bytes.
func TestSyncedIsFound(t *testing.T) {
	source := rand.New(rand.NewSource(5))
	for range 300 {
		f, lasting := New(), map[string]string{}
		for range 60 {
			c := anyCall(source)
			if c.on(f) == api.OK {
				switch c.kind {
				case callSync:
					lasting[c.name], _ = f.Read(c.name)
				case callDelete:
					delete(lasting, c.name)
				case callRename:
					text := lasting[c.name]
					delete(lasting, c.name)
					lasting[c.to] = text
				}
			}
			keep := anyKeep(source)
			found := f.Crash(keep...)
			names, _ := f.List()
			wantList(t, found, names...)
			for _, name := range names {
				now, _ := f.Read(name)
				then, _ := found.Read(name)
				if !strings.HasPrefix(now, then) || !strings.HasPrefix(then, lasting[name]) {
					t.Fatalf("%q: %q of %q is found, where %q was synced", name, then, now, lasting[name])
				}
			}
		}
	}
}

// P4.3: a Crash that keeps all finds all bytes; a Crash of what was found, whatever it keeps, finds the same.
func TestAllIsFound(t *testing.T) {
	source := rand.New(rand.NewSource(6))
	for range 300 {
		f := New()
		for _, c := range anyRow(source, source.Intn(80)) {
			c.on(f)
		}
		if got, want := told(f.Crash(all()...)), told(f); got != want {
			t.Errorf("%q is found of %q", got, want)
		}
		found := f.Crash(anyKeep(source)...)
		for range 4 {
			again := found.Crash(anyKeep(source)...)
			if told(again) != told(found) {
				t.Errorf("%q is found of what was found: %q", told(again), told(found))
			}
			found = again
		}
	}
}

// steps: the files behind each act of a row without fates, all kept and synced ones alone: of 0 acts, of 1, and so on.
func steps(row []call) (kept, synced []string) {
	f := New()
	kept, synced = []string{""}, []string{""}
	for _, c := range row {
		c.on(f)
		if f.Acts() == len(kept) {
			kept, synced = append(kept, told(f)), append(synced, told(f.Crash()))
		}
	}
	return kept, synced
}

// P4.4: with FateBefore at n just n acts, with FateAfter n + 1, have had their effect when it is down; where fewer acts come it isn't down.
func TestPowerGoesAtEachAct(t *testing.T) {
	source := rand.New(rand.NewSource(7))
	for range 60 {
		row := anyRow(source, 30)
		kept, synced := steps(row)
		for n := range len(kept) + 2 {
			for _, kind := range []int{api.FateBefore, api.FateAfter} {
				f := New()
				f.Arm(api.Fate{At: n, Kind: kind})
				for _, c := range row {
					c.on(f)
				}
				acts := len(kept) - 1
				comes := n < acts
				effects := min(n+kind-api.FateBefore, acts)
				wantState(t, f, min(n+1, acts), comes)
				if told(f.Crash(all()...)) != kept[effects] || told(f.Crash()) != synced[effects] {
					t.Fatalf("fate %d at %d of %d acts: not the effect of %d", kind, n, acts, effects)
				}
			}
		}
	}
}

// P4.4: with FateSpace alone, at whichever acts, it is never down.
func TestSpaceAloneIsNeverDown(t *testing.T) {
	source := rand.New(rand.NewSource(8))
	for range 200 {
		f := New()
		var fates []api.Fate
		for at := range 60 {
			if source.Intn(3) > 0 {
				fates = append(fates, api.Fate{At: at, Kind: api.FateSpace})
			}
		}
		f.Arm(fates...)
		for _, c := range anyRow(source, 60) {
			if err := c.on(f); err == api.ErrDown || f.Down() {
				t.Fatalf("%s: error %d, down %v", c.told(), err, f.Down())
			}
		}
	}
}

// R4: the same row of calls on a new one gives the same answers.
func TestSameRowSameAnswers(t *testing.T) {
	source := rand.New(rand.NewSource(9))
	for range 50 {
		row, fates, keep := anyRow(source, 60), anyFates(source), anyKeep(source)
		var first string
		for round := range 5 {
			f := New()
			f.Arm(fates...)
			answers := ""
			for _, c := range row {
				answers += string(rune('0' + c.on(f)))
			}
			answers += told(f) + told(f.Crash(keep...))
			if round == 0 {
				first = answers
			} else if answers != first {
				t.Fatalf("%q, not %q", answers, first)
			}
		}
	}
}
