package wal

import (
	"encoding/binary"
	"fmt"
	"hash/crc32"
	"math"
	"slices"
	"strings"
	"testing"
	"unsafe"

	"tarmac/api"
	"tarmac/vfs"
)

const (
	before = api.FateBefore
	after  = api.FateAfter
	space  = api.FateSpace
)

func fate(at, kind int) api.Fate { return api.Fate{At: at, Kind: kind} }

// framesOf: the payloads' frames, by other means than package frame's.
func framesOf(payloads ...string) string {
	var text []byte
	for _, payload := range payloads {
		head := binary.BigEndian.AppendUint32(nil, uint32(len(payload)))
		text = append(text, head...)
		text = binary.BigEndian.AppendUint32(text, crc32.ChecksumIEEE(append(head, payload...)))
		text = append(text, payload...)
	}
	return string(text)
}

// all: numbers for a Crash that keeps everything.
func all() []int { return slices.Repeat([]int{math.MaxInt}, 100) }

func files(f *vfs.FS) string {
	names, _ := f.List()
	var text strings.Builder
	for _, name := range names {
		held, _ := f.Read(name)
		text.WriteString(name + "=" + held + ";")
	}
	return text.String()
}

// told: all that can be seen of a file system, up or down: its files, those that are synced, its acts, its power.
func told(f *vfs.FS) string {
	return fmt.Sprintf("%q, synced %q, acts %d, down %v", files(f.Crash(all()...)), files(f.Crash()), f.Acts(), f.Down())
}

func want(t *testing.T, what string, got, err api.Errno) {
	t.Helper()
	if got != err {
		t.Errorf("%s: error %d, not %d", what, got, err)
	}
}

func wantTold(t *testing.T, f *vfs.FS, kept, synced string, acts int, down bool) {
	t.Helper()
	if got, err := told(f), fmt.Sprintf("%q, synced %q, acts %d, down %v", kept, synced, acts, down); got != err {
		t.Errorf("%s; not %s", got, err)
	}
}

// wantRefused: the call answers the error, does no act, and changes nothing.
func wantRefused(t *testing.T, what string, f *vfs.FS, err api.Errno, call func() api.Errno) {
	t.Helper()
	was := told(f)
	want(t, what, call(), err)
	if now := told(f); now != was {
		t.Errorf("%s: %s; not %s", what, now, was)
	}
}

func wantCount(t *testing.T, l *Log, count int) {
	t.Helper()
	if l.Count() != count {
		t.Errorf("Count %d, not %d", l.Count(), count)
	}
}

// opened: the log that is opened, which has these payloads; opening does no act and changes nothing.
func opened(t *testing.T, f *vfs.FS, name string, torn bool, payloads ...string) *Log {
	t.Helper()
	was := told(f)
	l, got, err := Open(f, name)
	if l == nil || err != api.OK {
		t.Fatalf("Open of %q: error %d", name, err)
	}
	if !slices.Equal(got, payloads) || l.Torn() != torn || l.Count() != len(payloads) {
		t.Fatalf("Open of %q: %.40q, torn %v, Count %d; not %.40q, %v", name, got, l.Torn(), l.Count(), payloads, torn)
	}
	if now := told(f); now != was {
		t.Fatalf("Open of %q: %s; not %s", name, now, was)
	}
	return l
}

// wantNoLog: Open answers the error, and nothing beside it.
func wantNoLog(t *testing.T, f *vfs.FS, name string, err api.Errno) {
	t.Helper()
	wantRefused(t, "Open", f, err, func() api.Errno {
		l, payloads, got := Open(f, name)
		if l != nil || len(payloads) > 0 {
			t.Errorf("Open of %q: %v, %q beside error %d", name, l, payloads, got)
		}
		return got
	})
}

// holding: a file system with one file, whose bytes are synced.
func holding(name, text string) *vfs.FS {
	f := vfs.New()
	f.Append(name, text)
	return f.Crash(math.MaxInt)
}

func gone() *vfs.FS {
	f := holding("log", framesOf("a"))
	f.Arm(fate(0, before))
	f.Sync("log")
	return f
}

func wrongNames() []string {
	return []string{"", strings.Repeat("n", api.MaxName+1), strings.Repeat("ü", api.MaxName/2+1), strings.Repeat("n", 1<<16)}
}

func tooLong() string { return strings.Repeat("l", api.MaxFrame+1) }

// edgePayloads: none, bytes of all kinds, what looks like a frame or its beginning, the greatest.
func edgePayloads() []string {
	return []string{"", "a", "\x00", "\xff\x00\xff", "über", framesOf("inner"), framesOf("cut")[:10], "", strings.Repeat("\x00", 8), strings.Repeat("m", api.MaxFrame-1), strings.Repeat("m", api.MaxFrame), strings.Repeat("\xff", api.MaxFrame)}
}

// P5.1, P5.2: the chapter's examples.
func TestExamples(t *testing.T) {
	f := vfs.New()
	l := opened(t, f, "log", false)
	want(t, "Append", l.Append("a", "b"), api.OK)
	wantTold(t, f, "log="+framesOf("a", "b")+";", "log="+framesOf("a", "b")+";", 2, false)
	opened(t, f, "log", false, "a", "b")

	f = vfs.New()
	l = opened(t, f, "log", false)
	f.Arm(fate(0, after))
	want(t, "Append", l.Append("a", "b"), api.ErrDown)
	opened(t, f.Crash(12), "log", true, "a")
	opened(t, f.Crash(18), "log", false, "a", "b")
	opened(t, f.Crash(0), "log", false)

	f = vfs.New()
	l = opened(t, f, "log", false)
	f.Arm(fate(0, space))
	want(t, "Append", l.Append("a", "b"), api.ErrSpace)
	want(t, "Append", l.Append("a", "b"), api.OK)
	opened(t, f, "log", false, "a", "b")
}

// P5.1: a file that isn't there is an empty log; none is made, by whatever name, and fates are left to the acts to come.
func TestOpenOfNone(t *testing.T) {
	for _, kind := range []int{before, after, space} {
		f := holding("other", "bytes")
		f.Arm(fate(0, kind))
		for _, name := range []string{"log", "o", "others", "\x00", strings.Repeat("n", api.MaxName)} {
			l := opened(t, f, name, false)
			want(t, "Append", l.Append(), api.OK)
		}
		wantTold(t, f, "other=bytes;", "other=bytes;", 0, false)
		want(t, "the next act", f.Append("x"), []api.Errno{before: api.ErrDown, after: api.ErrDown, space: api.ErrSpace}[kind])
	}
}

// P5.1: the payloads are those of the whole frames at the file's beginning; whatever stands behind them makes it torn.
func TestOpenOfFile(t *testing.T) {
	a, b := framesOf("a"), framesOf("bb")
	whole := map[string][]string{"": nil, a: {"a"}, a + b + a: {"a", "bb", "a"}, framesOf("", "", ""): {"", "", ""}, framesOf(edgePayloads()...): edgePayloads()}
	for text, payloads := range whole {
		opened(t, holding("log", text), "log", false, payloads...)
		wrongs := []string{"x", "\x00", a[:8], a[1:], a[:8] + "A", a[:8] + "A" + a, "\xff" + a, strings.Repeat("\x00", 8), framesOf(tooLong()), "x" + strings.Repeat("y", 100)}
		for _, wrong := range wrongs {
			opened(t, holding("log", text+wrong), "log", true, payloads...)
		}
	}
}

// P5.1: bytes that aren't synced count as the others do.
func TestOpenOfLooseBytes(t *testing.T) {
	f := holding("log", framesOf("a"))
	f.Append("log", framesOf("b")[:3])
	opened(t, f, "log", true, "a")
	f.Append("log", framesOf("b")[3:])
	opened(t, f, "log", false, "a", "b")
}

// P5.1: names of 1 and of MaxName bytes are right, whatever bytes they have; each log has its own file.
func TestRightNames(t *testing.T) {
	f := vfs.New()
	names := []string{"a", "\x00", "\xff", " ", "/", "..", "ab", strings.Repeat("n", api.MaxName-1), strings.Repeat("n", api.MaxName), strings.Repeat("\xff", api.MaxName)}
	logs := map[string]*Log{}
	for _, name := range names {
		logs[name] = opened(t, f, name, false)
	}
	for _, name := range names {
		want(t, "Append", logs[name].Append(name, "x"), api.OK)
	}
	for i, name := range names {
		opened(t, f, name, false, name, "x")
		want(t, "Rewrite", Rewrite(f, name, fmt.Sprint(i)), api.OK)
	}
	for i, name := range names {
		opened(t, f.Crash(), name, false, fmt.Sprint(i))
		wantCount(t, logs[name], 2)
	}
}

// P5.1: what is no name is ErrName to Open and to Rewrite, with payloads and without.
func TestWrongNames(t *testing.T) {
	for _, f := range []*vfs.FS{vfs.New(), holding("log", framesOf("a")), holding("n", "torn")} {
		f.Arm(fate(0, before))
		for _, name := range wrongNames() {
			wantNoLog(t, f, name, api.ErrName)
			wantRefused(t, "Rewrite", f, api.ErrName, func() api.Errno { return Rewrite(f, name) })
			wantRefused(t, "Rewrite", f, api.ErrName, func() api.Errno { return Rewrite(f, name, "a", "b") })
		}
	}
}

// P5.1: of any number of payloads all frames come to the file's end by two acts, and last.
func TestAppend(t *testing.T) {
	f := vfs.New()
	l := opened(t, f, "log", false)
	many := strings.Split(strings.Repeat("one,two,,", 500), ",")
	var payloads []string
	for i, list := range [][]string{{"a"}, {"b", "c"}, {""}, {"", "", ""}, edgePayloads(), many, {"last"}} {
		want(t, "Append", l.Append(list...), api.OK)
		payloads = append(payloads, list...)
		text := "log=" + framesOf(payloads...) + ";"
		wantTold(t, f, text, text, 2*(i+1), false)
		wantCount(t, l, len(payloads))
		opened(t, f, "log", false, payloads...)
	}
	if l.Torn() {
		t.Error("torn by an Append")
	}
}

// P5.1: what a file had stays ahead of what is appended to its log.
func TestAppendToFile(t *testing.T) {
	f := holding("log", framesOf("a", "b"))
	l := opened(t, f, "log", false, "a", "b")
	want(t, "Append", l.Append("c"), api.OK)
	wantCount(t, l, 3)
	opened(t, f.Crash(), "log", false, "a", "b", "c")

	f = holding("log", "")
	want(t, "Append", opened(t, f, "log", false).Append("c"), api.OK)
	opened(t, f.Crash(), "log", false, "c")
}

// P5.1: an Append without payloads is OK and no act: no file is made, and no fate comes; a payload without bytes is one.
func TestAppendOfNothing(t *testing.T) {
	for _, f := range []*vfs.FS{vfs.New(), holding("log", framesOf("a"))} {
		l, _, _ := Open(f, "log")
		count := l.Count()
		for _, kind := range []int{before, after, space} {
			f.Arm(fate(0, kind))
			wantRefused(t, "Append of no payloads", f, api.OK, func() api.Errno { return l.Append() })
			wantRefused(t, "Append of an empty list", f, api.OK, func() api.Errno { return l.Append([]string{}...) })
		}
		wantCount(t, l, count)
		f.Arm()
		want(t, "Append of a payload without bytes", l.Append(""), api.OK)
		wantCount(t, l, count+1)
		if f.Acts() != 2 {
			t.Errorf("%d acts", f.Acts())
		}
	}
}

// P5.1: without space nothing has changed, no file is made, and the next Append is OK; Sync needs none.
func TestAppendWithoutSpace(t *testing.T) {
	for _, had := range [][]string{nil, {"a"}} {
		f, kept := vfs.New(), ""
		if had != nil {
			kept = "log=" + framesOf(had...) + ";"
			f = holding("log", framesOf(had...))
		}
		l := opened(t, f, "log", false, had...)
		f.Arm(fate(0, space), fate(1, space), fate(3, space), fate(4, space))
		for acts := 1; acts <= 2; acts++ {
			want(t, "Append without space", l.Append("b", "c"), api.ErrSpace)
			wantTold(t, f, kept, kept, acts, false)
			wantCount(t, l, len(had))
		}
		want(t, "Append whose Sync has no space", l.Append("b", "c"), api.OK)
		want(t, "Append without space", l.Append("d"), api.ErrSpace)
		want(t, "Append", l.Append("e"), api.OK)
		wantCount(t, l, len(had)+3)
		now := append(slices.Clone(had), "b", "c", "e")
		kept = "log=" + framesOf(now...) + ";"
		wantTold(t, f, kept, kept, 7, false)
		opened(t, f, "log", false, now...)
	}
}

// wantUseless: the log answers ErrDown to whatever is appended.
func wantUseless(t *testing.T, f *vfs.FS, l *Log) {
	t.Helper()
	for _, list := range [][]string{nil, {""}, {"x", "y"}, {tooLong()}} {
		wantRefused(t, "Append when the power is gone", f, api.ErrDown, func() api.Errno { return l.Append(list...) })
	}
	f.Arm() // which doesn't bring the power back
	wantRefused(t, "Append when the power is gone", f, api.ErrDown, func() api.Errno { return l.Append("x") })
}

// P5.1, P5.2: the power goes with one of the two acts: just those ahead of it have had their effect; of every number of bytes that is kept, the whole frames are found.
func TestAppendAndPower(t *testing.T) {
	list := []string{"b", "", "cc", "ddd"}
	for _, had := range [][]string{nil, {"a", ""}} {
		old, frames := framesOf(had...), framesOf(list...)
		for at := range 2 {
			for _, kind := range []int{before, after} {
				f := holding("log", old)
				l := opened(t, f, "log", false, had...)
				f.Arm(fate(at, kind))
				want(t, "Append", l.Append(list...), api.ErrDown)
				kept, synced := "log="+old, "log="+old
				if effects := at + kind - before; effects >= 1 {
					kept += frames
					if effects == 2 {
						synced += frames
					}
				}
				wantTold(t, f, kept+";", synced+";", at+1, true)
				wantCount(t, l, len(had))
				wantUseless(t, f, l)
				wantCount(t, l, len(had))
				wantNoLog(t, f, "log", api.ErrDown)
				for keep := range len(frames) + 2 {
					length := min(len(synced)+keep, len(kept)) - len("log=")
					wantFirst(t, f.Crash(keep), append(slices.Clone(had), list...), length)
				}
			}
		}
	}
}

// wantFirst: the file has this many bytes of the payloads' frames; the log has those payloads that are whole in them.
func wantFirst(t *testing.T, f *vfs.FS, payloads []string, length int) {
	t.Helper()
	whole := 0
	for whole < len(payloads) && len(framesOf(payloads[:whole+1]...)) <= length {
		whole++
	}
	opened(t, f, "log", len(framesOf(payloads[:whole]...)) < length, payloads[:whole]...)
}

// P5.1: the power goes where no log's file is yet: nothing is made ahead of the act, and an empty log is found.
func TestFirstAppendAndPower(t *testing.T) {
	f := vfs.New()
	l := opened(t, f, "log", false)
	f.Arm(fate(0, before))
	want(t, "Append", l.Append("a"), api.ErrDown)
	wantTold(t, f, "", "", 1, true)
	opened(t, f.Crash(9), "log", false)
}

// P5.1: the power may go by somebody else's act too.
func TestPowerGoesElsewhere(t *testing.T) {
	f := holding("log", framesOf("a"))
	l := opened(t, f, "log", false, "a")
	f.Arm(fate(0, after))
	want(t, "another file's act", f.Append("other", "x"), api.ErrDown)
	wantUseless(t, f, l)
	wantCount(t, l, 1)
}

// P5.1: at MaxFrame all is well; one byte more is ErrLong, wherever it stands, and nothing of the list is appended or rewritten.
func TestTooLong(t *testing.T) {
	most := strings.Repeat("m", api.MaxFrame)
	f := holding("log", framesOf("a"))
	l := opened(t, f, "log", false, "a")
	for _, list := range [][]string{{tooLong()}, {"b", tooLong()}, {tooLong(), "b"}, {most, tooLong(), ""}, {strings.Repeat("x", 1<<20)}} {
		f.Arm(fate(0, before))
		wantRefused(t, "Append", f, api.ErrLong, func() api.Errno { return l.Append(list...) })
		wantRefused(t, "Rewrite", f, api.ErrLong, func() api.Errno { return Rewrite(f, "log", list...) })
		wantRefused(t, "Rewrite of none", f, api.ErrLong, func() api.Errno { return Rewrite(f, "new", list...) })
	}
	wantCount(t, l, 1)
	f.Arm()
	want(t, "Append", l.Append(most, "", most), api.OK)
	wantCount(t, l, 4)
	opened(t, f, "log", false, "a", most, "", most)
	want(t, "Rewrite", Rewrite(f, "log", most, most), api.OK)
	opened(t, f, "log", false, most, most)
}

// P5.3: a log that was opened torn, by a byte or by more, takes nothing.
func TestTornTakesNothing(t *testing.T) {
	a := framesOf("a")
	for _, text := range []string{"x", a + "x", a + "\x00", a + a[:8], a + strings.Repeat("\x00", 8), a + a + "no frame" + a, a[:5]} {
		f := holding("log", text)
		l, payloads, _ := Open(f, "log")
		f.Arm(fate(0, before))
		for _, list := range [][]string{{}, {""}, {"b"}, {"b", "c"}, {tooLong()}} {
			wantRefused(t, "Append to a torn log", f, api.ErrTorn, func() api.Errno { return l.Append(list...) })
		}
		if !l.Torn() {
			t.Error("not torn")
		}
		wantCount(t, l, len(payloads))
	}
}

// P5.1, P5.3: torn is what the file was when it was opened: a log that was opened torn stays so, though the file is another one since.
func TestTornStays(t *testing.T) {
	f := holding("log", framesOf("a")+"x")
	l := opened(t, f, "log", true, "a")
	want(t, "Rewrite", Rewrite(f, "log", "a", "b"), api.OK)
	if !l.Torn() {
		t.Error("not torn any more")
	}
	wantCount(t, l, 1)
	wantRefused(t, "Append", f, api.ErrTorn, func() api.Errno { return l.Append("c") })
	opened(t, f, "log", false, "a", "b")
}

// P5.3: at every place where a log's bytes may be cut: rewritten with what was found it isn't torn, has these, and takes more.
func TestRewriteOfTorn(t *testing.T) {
	text := framesOf("a", "", "bb", strings.Repeat("\x00", 20), "c")
	for cut := range len(text) + 1 {
		f := holding("log", text[:cut])
		l, payloads, _ := Open(f, "log")
		if l.Torn() != (framesOf(payloads...) != text[:cut]) {
			t.Errorf("cut at %d: torn %v", cut, l.Torn())
		}
		want(t, "Rewrite", Rewrite(f, "log", payloads...), api.OK)
		now := "log=" + framesOf(payloads...) + ";"
		wantTold(t, f, now, now, 3, false)
		l = opened(t, f, "log", false, payloads...)
		want(t, "Append", l.Append("more", ""), api.OK)
		opened(t, f.Crash(), "log", false, append(payloads, "more", "")...)
	}
}

// P5.1: Rewrite, where there is a file and where there is none, with payloads and without: just these acts, and what it has lasts.
func TestRewrite(t *testing.T) {
	for _, list := range [][]string{nil, {}, {""}, {"a"}, {"a", "", "b"}, edgePayloads()} {
		now := "log=" + framesOf(list...) + ";"
		f := vfs.New()
		want(t, "Rewrite of none", Rewrite(f, "log", list...), api.OK)
		wantTold(t, f, now, now, 2, false)
		opened(t, f, "log", false, list...)
		for _, text := range []string{"", "no frames", framesOf("old"), framesOf("a", "", "b", "c"), strings.Repeat("x", 1000)} {
			f = holding("log", text)
			want(t, "Rewrite", Rewrite(f, "log", list...), api.OK)
			wantTold(t, f, now, now, 3, false)
			opened(t, f, "log", false, list...)
		}
	}
}

// P5.1: no other file is touched.
func TestRewriteOfOne(t *testing.T) {
	f := vfs.New()
	for _, name := range []string{"lo", "log", "logs", "\x00"} {
		f.Append(name, "x")
	}
	want(t, "Rewrite", Rewrite(f, "log", "a"), api.OK)
	wantTold(t, f, "\x00=x;lo=x;log="+framesOf("a")+";logs=x;", "\x00=;lo=;log="+framesOf("a")+";logs=;", 7, false)
}

// stages: a file behind none, one, two of a Rewrite's acts, and so on, all its bytes and those that are synced; "-" where there is no file.
func stages(old string, there bool, frames string) (kept, synced []string) {
	kept, synced = []string{"-", frames, frames}, []string{"-", "", frames}
	if there {
		return append([]string{old}, kept...), append([]string{old}, synced...)
	}
	return kept, synced
}

func asFile(text string) string {
	if text == "-" {
		return ""
	}
	return "log=" + text + ";"
}

// P5.1: each fate at each act of a Rewrite: just the acts ahead of it have had their effect, and nothing behind it is done.
func TestRewriteAndFates(t *testing.T) {
	for _, list := range [][]string{nil, {"b", "", "c"}} {
		for _, there := range []bool{true, false} {
			kept, synced := stages(framesOf("a"), there, framesOf(list...))
			last := len(kept) - 1 // as many acts as there are
			made := func() *vfs.FS {
				if there {
					return holding("log", framesOf("a"))
				}
				return vfs.New()
			}
			for at := range last + 2 {
				for _, kind := range []int{before, after} {
					f := made()
					f.Arm(fate(at, kind))
					err, acts, effects := api.OK, last, last
					if at < last {
						err, acts, effects = api.ErrDown, at+1, at+kind-before
					}
					want(t, "Rewrite", Rewrite(f, "log", list...), err)
					wantTold(t, f, asFile(kept[effects]), asFile(synced[effects]), acts, at < last)
				}
				f := made()
				f.Arm(fate(at, space))
				if at == last-2 { // the Append's: there is no file then
					want(t, "Rewrite without space", Rewrite(f, "log", list...), api.ErrSpace)
					wantTold(t, f, "", "", at+1, false)
					want(t, "Rewrite once more", Rewrite(f, "log", list...), api.OK)
				} else {
					want(t, "Rewrite", Rewrite(f, "log", list...), api.OK)
				}
				opened(t, f.Crash(), "log", false, list...)
			}
		}
	}
}

// P5.1: Rewrite of one that is down.
func TestRewriteWhenDown(t *testing.T) {
	f := gone()
	for _, name := range []string{"log", "none"} {
		wantRefused(t, "Rewrite", f, api.ErrDown, func() api.Errno { return Rewrite(f, name) })
		wantRefused(t, "Rewrite", f, api.ErrDown, func() api.Errno { return Rewrite(f, name, "a", "b") })
	}
	wantNoLog(t, f, "log", api.ErrDown)
	wantNoLog(t, f, "none", api.ErrDown)
}

// P5.1: where several errors apply, the one that the chapter names first: Open: ErrDown, ErrName. Append: ErrDown, ErrTorn, ErrLong. Rewrite: ErrLong, ErrDown, ErrName, ErrSpace.
func TestFirstError(t *testing.T) {
	down := gone()
	for _, name := range wrongNames() {
		wantNoLog(t, down, name, api.ErrDown)
		wantRefused(t, "Rewrite by no name when down", down, api.ErrDown, func() api.Errno { return Rewrite(down, name, "a") })
		wantRefused(t, "all three", down, api.ErrLong, func() api.Errno { return Rewrite(down, name, "a", tooLong()) })
		f := vfs.New()
		f.Arm(fate(0, space))
		wantRefused(t, "too long, by no name", f, api.ErrLong, func() api.Errno { return Rewrite(f, name, tooLong()) })
		wantRefused(t, "by no name, without space", f, api.ErrName, func() api.Errno { return Rewrite(f, name, "a") })
	}
	wantRefused(t, "too long when down", down, api.ErrLong, func() api.Errno { return Rewrite(down, "log", tooLong()) })

	f := holding("log", "torn")
	l := opened(t, f, "log", true)
	f.Arm(fate(0, space))
	wantRefused(t, "too long and torn", f, api.ErrTorn, func() api.Errno { return l.Append(tooLong()) })
	wantRefused(t, "nothing and torn", f, api.ErrTorn, func() api.Errno { return l.Append() })
	f.Arm(fate(0, after))
	f.Sync("log")
	wantUseless(t, f, l)

	f = vfs.New()
	l = opened(t, f, "log", false)
	f.Arm(fate(0, space))
	wantRefused(t, "too long without space", f, api.ErrLong, func() api.Errno { return l.Append("a", tooLong()) })
	want(t, "Append", l.Append("a"), api.ErrSpace)
}

// P5.1: Count is of what was opened and of what was answered by OK; no error counts.
func TestCount(t *testing.T) {
	f := holding("log", framesOf("a", "b", ""))
	l := opened(t, f, "log", false, "a", "b", "")
	steps := []struct {
		list  []string
		fates []api.Fate
		err   api.Errno
		count int
	}{
		{[]string{"c"}, nil, api.OK, 4},
		{nil, nil, api.OK, 4},
		{[]string{"", ""}, nil, api.OK, 6},
		{[]string{"d", "e"}, []api.Fate{fate(0, space)}, api.ErrSpace, 6},
		{[]string{"d", tooLong()}, nil, api.ErrLong, 6},
		{[]string{"d", "e", "f"}, []api.Fate{fate(1, space)}, api.OK, 9},
		{[]string{"g"}, []api.Fate{fate(1, after)}, api.ErrDown, 9},
		{[]string{"h"}, nil, api.ErrDown, 9},
		{nil, nil, api.ErrDown, 9},
	}
	for i, step := range steps {
		f.Arm(step.fates...)
		want(t, fmt.Sprint("step ", i), l.Append(step.list...), step.err)
		wantCount(t, l, step.count)
	}
	opened(t, f.Crash(), "log", false, "a", "b", "", "c", "", "", "d", "e", "f", "g")
}

// R5: lists that are handed in stay as they are, their spare memory too; what is done with them, and with what is answered, isn't seen in the log.
func TestNothingChangedNothingKept(t *testing.T) {
	f := vfs.New()
	list := []string{"a", "b", "spare", "spare"}
	l := opened(t, f, "log", false)
	want(t, "Append", l.Append(list[:2]...), api.OK)
	want(t, "Rewrite", Rewrite(f, "other", list[:2]...), api.OK)
	if !slices.Equal(list, []string{"a", "b", "spare", "spare"}) {
		t.Errorf("%q", list)
	}
	list[0] = "changed"
	_, payloads, _ := Open(f, "log")
	payloads[1] = "changed"
	opened(t, f, "log", false, "a", "b")
	opened(t, f, "other", false, "a", "b")
}

// R5: a name that was handed in isn't kept.
func TestNameIsNotKept(t *testing.T) {
	name := strings.Repeat("n", 30)
	l := opened(t, vfs.New(), name, false)
	if unsafe.StringData(l.name) == unsafe.StringData(name) {
		t.Error("the name that was handed in is kept")
	}
}

// R6: logs of several file systems, and what a Crash finds, have nothing to do with one another.
func TestLogsAreApart(t *testing.T) {
	f := vfs.New()
	first := opened(t, f, "log", false)
	want(t, "Append", first.Append("a"), api.OK)
	g := f.Crash()
	second := opened(t, g, "log", false, "a")
	f.Arm(fate(0, before))
	want(t, "Append", first.Append("b"), api.ErrDown)
	want(t, "Append", second.Append("c"), api.OK)
	wantCount(t, first, 1)
	wantCount(t, second, 2)
	opened(t, f.Crash(), "log", false, "a")
	opened(t, g, "log", false, "a", "c")
}
