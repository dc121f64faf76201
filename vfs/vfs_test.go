package vfs

import (
	"math"
	"math/rand"
	"slices"
	"strings"
	"testing"
	"unsafe"

	"tarmac/api"
)

const (
	before = api.FateBefore
	after  = api.FateAfter
	space  = api.FateSpace
)

func fate(at, kind int) api.Fate { return api.Fate{At: at, Kind: kind} }

func want(t *testing.T, what string, got, err api.Errno) {
	t.Helper()
	if got != err {
		t.Errorf("%s: error %d, not %d", what, got, err)
	}
}

func wantRead(t *testing.T, f *FS, name, text string) {
	t.Helper()
	if got, err := f.Read(name); got != text || err != api.OK {
		t.Errorf("Read of %q: %q, error %d; not %q", name, got, err, text)
	}
}

func wantList(t *testing.T, f *FS, names ...string) {
	t.Helper()
	if got, err := f.List(); !slices.Equal(got, names) || err != api.OK {
		t.Errorf("List: %q, error %d; not %q", got, err, names)
	}
}

// wantFiles: just these files, given as names and bytes in turn, names rising.
func wantFiles(t *testing.T, f *FS, pairs ...string) {
	t.Helper()
	var names []string
	for i := 0; i < len(pairs); i += 2 {
		names = append(names, pairs[i])
		wantRead(t, f, pairs[i], pairs[i+1])
	}
	wantList(t, f, names...)
}

func wantState(t *testing.T, f *FS, acts int, down bool) {
	t.Helper()
	if f.Acts() != acts || f.Down() != down {
		t.Errorf("acts %d, down %v; not %d, %v", f.Acts(), f.Down(), acts, down)
	}
}

// filled: a file system that is up, on which these files are appended, given as names and bytes in turn; nothing is synced.
func filled(t *testing.T, pairs ...string) *FS {
	t.Helper()
	f := New()
	for i := 0; i < len(pairs); i += 2 {
		want(t, "Append", f.Append(pairs[i], pairs[i+1]), api.OK)
	}
	return f
}

// all: numbers for a Crash that keeps everything.
func all() []int { return slices.Repeat([]int{math.MaxInt}, 100) }

// P4.1: the chapter's examples.
func TestExamples(t *testing.T) {
	f := New()
	want(t, "Append", f.Append("a", "x", "y"), api.OK)
	wantRead(t, f, "a", "xy")
	want(t, "Sync", f.Sync("a"), api.OK)
	want(t, "Append", f.Append("a", "z"), api.OK)
	wantRead(t, f.Crash(0), "a", "xy")
	wantRead(t, f.Crash(1), "a", "xyz")
	wantRead(t, f.Crash(9), "a", "xyz")

	f = f.Crash(1)
	f.Arm(fate(0, after))
	want(t, "Append", f.Append("a", "q"), api.ErrDown)
	if text, err := f.Read("a"); text != "" || err != api.ErrDown {
		t.Error(text, err)
	}
	wantRead(t, f.Crash(1), "a", "xyzq")

	f = f.Crash()
	f.Arm(fate(1, space))
	want(t, "Append", f.Append("b"), api.OK)
	wantRead(t, f, "b", "")
	want(t, "Append", f.Append("b", "w"), api.ErrSpace)
	want(t, "Append", f.Append("b", "w"), api.OK)
	wantRead(t, f, "b", "w")

	want(t, "Append", f.Append(""), api.ErrName)
	want(t, "Sync", f.Sync("none"), api.ErrNoFile)
	wantState(t, f, 3, false)
	want(t, "Rename", f.Rename("a", "b"), api.OK)
	wantRead(t, f, "b", "xyz")
	want(t, "Delete", f.Delete("a"), api.ErrNoFile)
}

// P4.1: a new one has no files, is up, and nothing is armed.
func TestNew(t *testing.T) {
	f := New()
	wantState(t, f, 0, false)
	wantList(t, f)
	want(t, "Sync", f.Sync("a"), api.ErrNoFile)
	want(t, "Delete", f.Delete("a"), api.ErrNoFile)
	want(t, "Rename", f.Rename("a", "b"), api.ErrNoFile)
	if text, err := f.Read("a"); text != "" || err != api.ErrNoFile {
		t.Error(text, err)
	}
	wantList(t, f.Crash(1, 2, 3))
	for range 50 {
		want(t, "Append", f.Append("a", "x"), api.OK)
	}
	wantRead(t, f, "a", strings.Repeat("x", 50))
	wantState(t, f, 50, false)
}

// rightNames: of 1 byte, of MaxName bytes, and of bytes of all kinds.
func rightNames() []string {
	return []string{"a", "\x00", "\xff", " ", "/", ".", "..", "a/b", "über", "\x00\x00", "a\x00", strings.Repeat("n", api.MaxName-1), strings.Repeat("n", api.MaxName), strings.Repeat("\xff", api.MaxName)}
}

// wrongNames: the empty one, and those of more than MaxName bytes.
func wrongNames() []string {
	return []string{"", strings.Repeat("n", api.MaxName+1), strings.Repeat("ü", api.MaxName/2+1), strings.Repeat("\x00", api.MaxName+1), strings.Repeat("n", 1<<16)}
}

// P4.1: names of 1 and of MaxName bytes are names, whatever bytes they have, and are told apart byte by byte.
func TestRightNames(t *testing.T) {
	f := New()
	for _, name := range rightNames() {
		want(t, "Append", f.Append(name, "of ", name), api.OK)
	}
	rising := rightNames()
	slices.Sort(rising)
	wantList(t, f, rising...)
	wantList(t, f.Crash(), rising...)
	for _, name := range rightNames() {
		wantRead(t, f, name, "of "+name)
		want(t, "Sync", f.Sync(name), api.OK)
		want(t, "Rename", f.Rename(name, "other"), api.OK)
		wantRead(t, f, "other", "of "+name)
		want(t, "Rename", f.Rename("other", name), api.OK)
	}
	wantList(t, f, rising...)
	for i, name := range rising {
		want(t, "Delete", f.Delete(name), api.OK)
		wantList(t, f, rising[i+1:]...)
	}
	wantState(t, f, 5*len(rising), false)
}

// P4.1: what is no name is ErrName to Append and as a new name, and no file's name to the others; nothing changes, and it is no act.
func TestWrongNames(t *testing.T) {
	f := filled(t, "a", "x", "b", "y")
	f.Arm(fate(0, after))
	for _, name := range wrongNames() {
		want(t, "Append", f.Append(name), api.ErrName)
		want(t, "Append", f.Append(name, "x"), api.ErrName)
		want(t, "Rename to no name", f.Rename("a", name), api.ErrName)
		want(t, "Rename of none to no name", f.Rename("none", name), api.ErrName)
		want(t, "Rename of no name to itself", f.Rename(name, name), api.ErrName)
		want(t, "Rename of no name", f.Rename(name, "c"), api.ErrNoFile)
		want(t, "Sync", f.Sync(name), api.ErrNoFile)
		want(t, "Delete", f.Delete(name), api.ErrNoFile)
		if text, err := f.Read(name); text != "" || err != api.ErrNoFile {
			t.Error(text, err)
		}
	}
	wantFiles(t, f, "a", "x", "b", "y")
	wantState(t, f, 2, false)
	want(t, "Sync", f.Sync("a"), api.ErrDown)
	wantFiles(t, f.Crash(), "a", "x", "b", "")
}

// P4.1: files that aren't there, never or not any more, are ErrNoFile; nothing changes, and it is no act.
func TestNoFile(t *testing.T) {
	f := filled(t, "a", "x", "b", "y", "c", "z")
	want(t, "Delete", f.Delete("b"), api.OK)
	want(t, "Rename", f.Rename("c", "d"), api.OK)
	f.Arm(fate(0, before))
	for _, name := range []string{"b", "c", "A", "aa", "a ", "a\x00", "none"} {
		want(t, "Sync", f.Sync(name), api.ErrNoFile)
		want(t, "Delete", f.Delete(name), api.ErrNoFile)
		want(t, "Rename", f.Rename(name, "e"), api.ErrNoFile)
		want(t, "Rename onto a file", f.Rename(name, "a"), api.ErrNoFile)
		want(t, "Rename onto itself", f.Rename(name, name), api.ErrNoFile)
		if text, err := f.Read(name); text != "" || err != api.ErrNoFile {
			t.Error(text, err)
		}
	}
	wantFiles(t, f, "a", "x", "d", "z")
	wantState(t, f, 5, false)
}

// P4.1: parts are appended one behind the other; without parts, and with empty ones, a file is made, or stays as it is.
func TestAppend(t *testing.T) {
	f := New()
	want(t, "no parts", f.Append("none"), api.OK)
	want(t, "a list without parts", f.Append("list", []string{}...), api.OK)
	want(t, "empty parts", f.Append("empty", "", "", ""), api.OK)
	want(t, "parts", f.Append("parts", "ab", "", "c", "\x00", "d\xff"), api.OK)
	wantFiles(t, f, "empty", "", "list", "", "none", "", "parts", "abc\x00d\xff")
	wantState(t, f, 4, false)
	want(t, "no parts", f.Append("parts"), api.OK)
	want(t, "empty parts", f.Append("parts", "", ""), api.OK)
	want(t, "parts", f.Append("parts", "e", "f"), api.OK)
	want(t, "parts", f.Append("empty", "g"), api.OK)
	wantFiles(t, f, "empty", "g", "list", "", "none", "", "parts", "abc\x00d\xffef")
	wantState(t, f, 8, false)
	wantFiles(t, f.Crash(), "empty", "", "list", "", "none", "", "parts", "")
}

// P4.1, P4.2: Sync is of all the bytes of one file, as they are then.
func TestSync(t *testing.T) {
	f := filled(t, "a", "12", "b", "34")
	want(t, "Sync", f.Sync("a"), api.OK)
	wantFiles(t, f.Crash(), "a", "12", "b", "")
	want(t, "Append", f.Append("a", "56"), api.OK)
	wantFiles(t, f.Crash(), "a", "12", "b", "")
	wantFiles(t, f, "a", "1256", "b", "34")
	want(t, "Sync", f.Sync("b"), api.OK)
	want(t, "Sync", f.Sync("b"), api.OK)
	wantFiles(t, f.Crash(), "a", "12", "b", "34")
	want(t, "Sync", f.Sync("a"), api.OK)
	wantFiles(t, f.Crash(), "a", "1256", "b", "34")
	want(t, "Append", f.Append("empty"), api.OK)
	want(t, "Sync", f.Sync("empty"), api.OK)
	wantFiles(t, f.Crash(), "a", "1256", "b", "34", "empty", "")
	wantState(t, f, 9, false)
}

// P4.1, P4.2: a file takes its bytes, and which of them are synced, to its new name at once.
func TestRename(t *testing.T) {
	f := filled(t, "a", "12")
	want(t, "Sync", f.Sync("a"), api.OK)
	want(t, "Append", f.Append("a", "34"), api.OK)
	want(t, "Rename", f.Rename("a", "z"), api.OK)
	wantFiles(t, f, "z", "1234")
	wantFiles(t, f.Crash(), "z", "12")
	wantFiles(t, f.Crash(1), "z", "123")
	want(t, "Append", f.Append("z", "56"), api.OK)
	want(t, "Append", f.Append("a", "new"), api.OK)
	wantFiles(t, f, "a", "new", "z", "123456")
	wantFiles(t, f.Crash(), "a", "", "z", "12")
	wantState(t, f, 6, false)
}

// P4.1, P4.2: onto another file's name: that one is gone, its synced bytes too.
func TestRenameOntoAnother(t *testing.T) {
	f := filled(t, "a", "12", "b", "345678", "c", "9")
	want(t, "Sync", f.Sync("b"), api.OK)
	want(t, "Rename", f.Rename("a", "b"), api.OK)
	wantFiles(t, f, "b", "12", "c", "9")
	wantFiles(t, f.Crash(), "b", "", "c", "")
	wantFiles(t, f.Crash(1), "b", "1", "c", "")
	want(t, "Rename", f.Rename("a", "b"), api.ErrNoFile)
	want(t, "Rename", f.Rename("b", "c"), api.OK)
	wantFiles(t, f, "c", "12")
	want(t, "Delete", f.Delete("c"), api.OK)
	wantFiles(t, f)
	wantState(t, f, 7, false)
}

// P4.1: onto its own name: nothing changes, but it is an act.
func TestRenameOntoItself(t *testing.T) {
	f := filled(t, "a", "12", "b", "x")
	want(t, "Sync", f.Sync("a"), api.OK)
	want(t, "Append", f.Append("a", "34"), api.OK)
	want(t, "Rename", f.Rename("a", "a"), api.OK)
	wantFiles(t, f, "a", "1234", "b", "x")
	wantFiles(t, f.Crash(1), "a", "123", "b", "")
	wantState(t, f, 5, false)
	f.Arm(fate(0, after))
	want(t, "Rename", f.Rename("a", "a"), api.ErrDown)
	wantState(t, f, 6, true)
	wantFiles(t, f.Crash(1), "a", "123", "b", "")
}

// P4.1, P4.2: a deleted file is gone at once, synced or not; one of its name begins anew.
func TestDelete(t *testing.T) {
	f := filled(t, "a", "12", "b", "34")
	want(t, "Sync", f.Sync("a"), api.OK)
	want(t, "Delete", f.Delete("a"), api.OK)
	wantFiles(t, f, "b", "34")
	wantFiles(t, f.Crash(9), "b", "34")
	want(t, "Delete", f.Delete("a"), api.ErrNoFile)
	want(t, "Append", f.Append("a", "56"), api.OK)
	wantFiles(t, f, "a", "56", "b", "34")
	wantFiles(t, f.Crash(), "a", "", "b", "")
	wantState(t, f, 5, false)
}

// P4.1: the names rise byte by byte, whatever the order in which the files came.
func TestListRises(t *testing.T) {
	source := rand.New(rand.NewSource(1))
	rising := []string{"\x00", "0", "10", "2", "A", "B", "_", "a", "a\x00", "aa", "ab", "b", "z", "\x7f", "ä", "\xff", "\xff\x00"}
	for range 20 {
		f := New()
		for _, i := range source.Perm(len(rising)) {
			want(t, "Append", f.Append(rising[i], "x"), api.OK)
		}
		wantList(t, f, rising...)
		wantList(t, f.Crash(), rising...)
	}
}

// wantAllDown: all that may be refused is refused by ErrDown, whatever it is given, and changes nothing.
func wantAllDown(t *testing.T, f *FS) {
	t.Helper()
	acts, kept, synced := f.Acts(), told(f.Crash(all()...)), told(f.Crash())
	for _, name := range append([]string{"a", "b", "none"}, wrongNames()...) {
		want(t, "Append", f.Append(name), api.ErrDown)
		want(t, "Append", f.Append(name, "x", "y"), api.ErrDown)
		want(t, "Sync", f.Sync(name), api.ErrDown)
		want(t, "Delete", f.Delete(name), api.ErrDown)
		for _, to := range append([]string{"a", "c"}, wrongNames()...) {
			want(t, "Rename", f.Rename(name, to), api.ErrDown)
		}
		if text, err := f.Read(name); text != "" || err != api.ErrDown {
			t.Errorf("Read: %q, error %d", text, err)
		}
	}
	if names, err := f.List(); len(names) != 0 || err != api.ErrDown {
		t.Errorf("List: %q, error %d", names, err)
	}
	wantState(t, f, acts, true)
	if told(f.Crash(all()...)) != kept || told(f.Crash()) != synced {
		t.Error("refused calls change the files")
	}
}

// told: the files of one that is up, in one text.
func told(f *FS) string {
	names, _ := f.List()
	var text strings.Builder
	for _, name := range names {
		bytes, _ := f.Read(name)
		text.WriteString(name + "=" + bytes + ";")
	}
	return text.String()
}

// P4.1: each of the acts, with each fate.
func TestFateOfEachAct(t *testing.T) {
	acts := []struct {
		do                  func(*FS) api.Errno
		undone, done        string // the files without and with the act's effect, all bytes kept
		lastUndone, lastNow string // the same of what is synced alone
	}{
		{func(f *FS) api.Errno { return f.Append("a", "3", "4") }, "a=12;b=x;", "a=1234;b=x;", "a=1;b=;", "a=1;b=;"},
		{func(f *FS) api.Errno { return f.Append("c", "3") }, "a=12;b=x;", "a=12;b=x;c=3;", "a=1;b=;", "a=1;b=;c=;"},
		{func(f *FS) api.Errno { return f.Append("c") }, "a=12;b=x;", "a=12;b=x;c=;", "a=1;b=;", "a=1;b=;c=;"},
		{func(f *FS) api.Errno { return f.Sync("a") }, "a=12;b=x;", "a=12;b=x;", "a=1;b=;", "a=12;b=;"},
		{func(f *FS) api.Errno { return f.Rename("a", "b") }, "a=12;b=x;", "b=12;", "a=1;b=;", "b=1;"},
		{func(f *FS) api.Errno { return f.Rename("a", "c") }, "a=12;b=x;", "b=x;c=12;", "a=1;b=;", "b=;c=1;"},
		{func(f *FS) api.Errno { return f.Delete("a") }, "a=12;b=x;", "b=x;", "a=1;b=;", "b=;"},
	}
	for i, act := range acts {
		for _, kind := range []int{0, before, after, space} {
			f := filled(t, "a", "1", "b", "x")
			f.Sync("a")
			f.Append("a", "2")
			f.Arm(fate(0, kind))
			err, files, synced := api.OK, act.done, act.lastNow
			if kind == before || kind == after {
				err = api.ErrDown
			}
			if kind == space && i < 3 {
				err = api.ErrSpace
			}
			if kind == before || err == api.ErrSpace {
				files, synced = act.undone, act.lastUndone
			}
			want(t, "the act", act.do(f), err)
			wantState(t, f, 5, err == api.ErrDown)
			if got := told(f.Crash(all()...)); got != files {
				t.Errorf("act %d, fate %d: %s, not %s", i, kind, got, files)
			}
			if got := told(f.Crash()); got != synced {
				t.Errorf("act %d, fate %d: synced %s, not %s", i, kind, got, synced)
			}
			if err == api.ErrDown {
				wantAllDown(t, f)
			} else {
				want(t, "the next act", f.Append("b"), api.OK)
				wantState(t, f, 6, false)
			}
		}
	}
}

// P4.1: of several fates with one At the first in the list counts, wherever the others stand.
func TestFirstFateCounts(t *testing.T) {
	for _, kinds := range [][]int{{space, before}, {space, after, before}, {before, space}, {after, before}, {after, space}, {before, after}, {space, space}} {
		f := New()
		list := []api.Fate{fate(2, kinds[0]), fate(7, before)}
		for _, kind := range kinds[1:] {
			list = append(list, fate(2, kind), fate(3, space))
		}
		f.Arm(list...)
		want(t, "act 0", f.Append("a", "0"), api.OK)
		want(t, "act 1", f.Append("a", "1"), api.OK)
		err, text, down := api.ErrDown, "01", true
		if kinds[0] == after {
			text = "012"
		} else if kinds[0] == space {
			err, down = api.ErrSpace, false
		}
		want(t, "act 2", f.Append("a", "2"), err)
		wantState(t, f, 3, down)
		wantRead(t, f.Crash(9), "a", text)
		if !down {
			want(t, "act 3", f.Append("a", "3"), api.ErrSpace)
			want(t, "act 4", f.Append("a", "4"), api.OK)
			wantRead(t, f, "a", "014")
		}
	}
}

// P4.1: the first counts though it never comes; then the others of its At don't.
func TestFirstFateOfNoKind(t *testing.T) {
	for _, kind := range []int{0, 4, -1} {
		f := New()
		f.Arm(fate(0, kind), fate(0, before), fate(0, space))
		want(t, "act 0", f.Append("a", "0"), api.OK)
		wantRead(t, f, "a", "0")
		wantState(t, f, 1, false)
	}
}

// P4.1: fates come in the order of At, not of the list; those far behind come when it is their turn.
func TestFatesFarBehind(t *testing.T) {
	f := New()
	f.Arm(fate(1000, after), fate(math.MaxInt, before), fate(math.MaxInt-1, before), fate(999, space), fate(0, space))
	want(t, "act 0", f.Append("a", "x"), api.ErrSpace)
	wantList(t, f)
	for range 998 {
		want(t, "an act", f.Append("a", "x"), api.OK)
	}
	want(t, "act 999", f.Append("a", "y"), api.ErrSpace)
	want(t, "act 1000", f.Append("a", "z"), api.ErrDown)
	wantState(t, f, 1001, true)
	wantRead(t, f.Crash(1000), "a", strings.Repeat("x", 998)+"z")
}

// P4.1: At counts from the arming on, whatever acts and refused calls were ahead of it.
func TestArmCountsFromNow(t *testing.T) {
	f := filled(t, "a", "1", "b", "2", "c", "3")
	f.Append("")
	f.Sync("none")
	f.Arm(fate(1, before))
	f.Append("")
	f.Delete("none")
	f.Read("a")
	f.List()
	want(t, "act 0", f.Append("a", "4"), api.OK)
	f.Rename("a", "")
	want(t, "act 1", f.Append("a", "5"), api.ErrDown)
	wantState(t, f, 5, true)
	wantFiles(t, f.Crash(9, 9, 9), "a", "14", "b", "2", "c", "3")
}

// P4.1: what is armed stands in the place of all that was armed before; nothing armed is no fate.
func TestArmAnew(t *testing.T) {
	f := New()
	f.Arm(fate(0, before), fate(1, before), fate(2, before))
	f.Arm(fate(1, space))
	want(t, "act 0", f.Append("a", "0"), api.OK)
	want(t, "act 1", f.Append("a", "1"), api.ErrSpace)
	want(t, "act 2", f.Append("a", "2"), api.OK)
	f.Arm(fate(1, before))
	want(t, "act 0", f.Append("a", "3"), api.OK)
	f.Arm(fate(1, space), fate(2, after))
	want(t, "act 0 again", f.Append("a", "4"), api.OK)
	f.Arm()
	for range 5 {
		want(t, "an act", f.Append("a", "."), api.OK)
	}
	f.Arm(fate(0, after))
	f.Arm([]api.Fate{}...)
	want(t, "an act", f.Append("a", "."), api.OK)
	wantState(t, f, 11, false)
	wantRead(t, f, "a", "0234......")
}

// P4.1: arming doesn't bring the power back.
func TestArmWhenDown(t *testing.T) {
	f := filled(t, "a", "1")
	f.Arm(fate(0, before))
	want(t, "Sync", f.Sync("a"), api.ErrDown)
	f.Arm()
	wantAllDown(t, f)
	f.Arm(fate(0, space), fate(1, space))
	wantAllDown(t, f)
	f.Crash(9)
	wantAllDown(t, f)
}

// P4.1: fates with At below 0, or of another kind than the three, never come.
func TestFatesThatNeverCome(t *testing.T) {
	f := filled(t, "a", "1")
	var list []api.Fate
	for _, at := range []int{-1, -2, -3, -1000, math.MinInt, math.MinInt + 1} {
		list = append(list, fate(at, before), fate(at, after), fate(at, space))
	}
	for at := range 20 {
		for _, kind := range []int{0, 4, 5, -1, -2, -3, 257, 258, 259, math.MinInt, math.MaxInt} {
			list = append(list, fate(at, kind))
		}
	}
	for range 3 {
		f.Arm(list...)
		for range 6 {
			want(t, "Append", f.Append("a", "2"), api.OK)
			want(t, "Sync", f.Sync("a"), api.OK)
			want(t, "Rename", f.Rename("a", "b"), api.OK)
			want(t, "Append", f.Append("a", "3"), api.OK)
			want(t, "Delete", f.Delete("a"), api.OK)
			want(t, "Rename", f.Rename("b", "a"), api.OK)
		}
	}
	wantState(t, f, 109, false)
	wantFiles(t, f, "a", "1"+strings.Repeat("2", 18))
}

// P4.1, P4.4: FateSpace at Sync, Rename and Delete uses the act up, and does nothing; at Append it refuses; it is never down.
func TestSpace(t *testing.T) {
	f := filled(t, "a", "1", "b", "2", "c", "3")
	f.Arm(fate(0, space), fate(1, space), fate(2, space), fate(3, space), fate(5, space), fate(7, space))
	want(t, "Sync", f.Sync("a"), api.OK)
	want(t, "Rename", f.Rename("a", "d"), api.OK)
	want(t, "Delete", f.Delete("b"), api.OK)
	want(t, "Append", f.Append("d", "4"), api.ErrSpace)
	want(t, "Append", f.Append("d", "5"), api.OK)
	want(t, "Append of nothing", f.Append("d"), api.ErrSpace)
	want(t, "Append", f.Append("e"), api.OK)
	want(t, "Append to a new file", f.Append("f"), api.ErrSpace)
	want(t, "Append", f.Append("d", "6"), api.OK)
	wantState(t, f, 12, false)
	wantFiles(t, f, "c", "3", "d", "156", "e", "")
	wantFiles(t, f.Crash(), "c", "", "d", "1", "e", "")
}

// P4.1: without space the name is looked at first, and refused calls leave the fate to the next act.
func TestSpaceBehindRefusals(t *testing.T) {
	f := New()
	f.Arm(fate(0, space))
	want(t, "Append", f.Append("", "x"), api.ErrName)
	want(t, "Sync", f.Sync("a"), api.ErrNoFile)
	want(t, "Append", f.Append("a", "x"), api.ErrSpace)
	want(t, "Sync", f.Sync("a"), api.ErrNoFile)
	want(t, "Append", f.Append("a", "x"), api.OK)
	wantState(t, f, 2, false)
}

// P4.1: each file has its own number, in the order of the names; fewer numbers and more, below 0 and above what isn't synced.
func TestCrashKeeps(t *testing.T) {
	f := filled(t, "c", "cc", "a", "aa", "b", "bb")
	for _, name := range []string{"a", "c"} {
		want(t, "Sync", f.Sync(name), api.OK)
	}
	for _, name := range []string{"b", "c", "a"} {
		want(t, "Append", f.Append(name, "123"), api.OK)
	}
	rows := []struct {
		keep    []int
		a, b, c string
	}{
		{nil, "aa", "", "cc"},
		{[]int{}, "aa", "", "cc"},
		{[]int{0}, "aa", "", "cc"},
		{[]int{1}, "aa1", "", "cc"},
		{[]int{0, 1}, "aa", "b", "cc"},
		{[]int{0, 3}, "aa", "bb1", "cc"},
		{[]int{0, 0, 2}, "aa", "", "cc12"},
		{[]int{1, 2, 3}, "aa1", "bb", "cc123"},
		{[]int{3, 5, 3}, "aa123", "bb123", "cc123"},
		{[]int{4, 6, 4}, "aa123", "bb123", "cc123"},
		{[]int{4, 6, 4, 9, -9, 1}, "aa123", "bb123", "cc123"},
		{[]int{1, 1, 1, 1, 1}, "aa1", "b", "cc1"},
		{[]int{-1, -2, -3}, "aa", "", "cc"},
		{[]int{-1, 4, -1}, "aa", "bb12", "cc"},
		{[]int{math.MinInt, math.MaxInt, math.MinInt + 1}, "aa", "bb123", "cc"},
		{[]int{math.MaxInt, math.MinInt, math.MaxInt - 1}, "aa123", "", "cc123"},
	}
	for _, row := range rows {
		found := f.Crash(row.keep...)
		wantFiles(t, found, "a", row.a, "b", row.b, "c", row.c)
		wantFiles(t, found.Crash(), "a", row.a, "b", row.b, "c", row.c)
		wantState(t, found, 0, false)
	}
	wantState(t, f, 8, false)
	wantFiles(t, f, "a", "aa123", "b", "bb123", "c", "cc123")
}

// P4.1: what is found is up, though the first one is down, and what was armed there isn't armed here.
func TestCrashOfOneThatIsDown(t *testing.T) {
	f := filled(t, "a", "12")
	f.Arm(fate(0, after), fate(1, before), fate(2, before), fate(0, space))
	want(t, "Append", f.Append("b", "34"), api.ErrDown)
	found := f.Crash(1, 2)
	wantState(t, found, 0, false)
	for range 4 {
		want(t, "Append", found.Append("a", "."), api.OK)
	}
	wantState(t, found, 4, false)
	wantFiles(t, found, "a", "1....", "b", "34")
	wantFiles(t, found.Crash(), "a", "1", "b", "34")
	wantState(t, f, 2, true)
	wantFiles(t, f.Crash(2, 1), "a", "12", "b", "3")
	wantAllDown(t, f)
}

// P4.1: of one that is up too, with fates that are still to come: they stay with the first one.
func TestCrashOfOneThatIsUp(t *testing.T) {
	f := filled(t, "a", "12")
	f.Arm(fate(1, before))
	found := f.Crash(9)
	for range 3 {
		want(t, "Append", found.Append("a", "."), api.OK)
	}
	wantRead(t, found, "a", "12...")
	want(t, "act 0", f.Append("a", "3"), api.OK)
	want(t, "act 1", f.Append("a", "4"), api.ErrDown)
	wantState(t, found, 3, false)
	wantState(t, f, 3, true)
	found.Arm(fate(0, after))
	want(t, "Delete", found.Delete("a"), api.ErrDown)
	wantFiles(t, f.Crash(9), "a", "123")
}

// P4.1: crash upon crash: what was found is synced there, what came since isn't.
func TestCrashOfCrash(t *testing.T) {
	f := filled(t, "a", "1234")
	second := f.Crash(3)
	want(t, "Append", second.Append("a", "56"), api.OK)
	want(t, "Append", second.Append("b", "x"), api.OK)
	third := second.Crash(1)
	wantFiles(t, third, "a", "1235", "b", "")
	want(t, "Rename", third.Rename("a", "b"), api.OK)
	wantFiles(t, third.Crash(), "b", "1235")
	wantState(t, third.Crash(), 0, false)
	wantFiles(t, f, "a", "1234")
	wantFiles(t, second, "a", "12356", "b", "x")
	wantFiles(t, second.Crash(), "a", "123", "b", "")
	wantState(t, f, 1, false)
	wantState(t, second, 2, false)
	wantState(t, third, 1, false)
}

// R6: the first one and what was found have nothing to do with one another, even where their bytes grow side by side.
func TestCrashesAreApart(t *testing.T) {
	f := filled(t, "a", "123", "b", "x")
	want(t, "Append", f.Append("a", "4"), api.OK)
	one, two := f.Crash(4), f.Crash(4)
	for i, each := range []*FS{f, one, two} {
		want(t, "Append", each.Append("a", strings.Repeat([]string{"f", "o", "t"}[i], 3)), api.OK)
	}
	wantRead(t, f, "a", "1234fff")
	wantRead(t, one, "a", "1234ooo")
	wantRead(t, two, "a", "1234ttt")
	want(t, "Delete", one.Delete("b"), api.OK)
	want(t, "Rename", two.Rename("b", "c"), api.OK)
	want(t, "Sync", two.Sync("a"), api.OK)
	wantList(t, f, "a", "b")
	wantList(t, one, "a")
	wantList(t, two, "a", "c")
	wantFiles(t, f.Crash(), "a", "", "b", "")
}

// P4.1: Acts counts acts alone: those with a fate too, and none of what is refused, asked or armed.
func TestActs(t *testing.T) {
	f := New()
	steps := []struct {
		do   func()
		acts int
	}{
		{func() { f.Append("a", "1") }, 1},
		{func() { f.Append("") }, 1},
		{func() { f.Append(strings.Repeat("n", api.MaxName+1), "x") }, 1},
		{func() { f.Sync("none") }, 1},
		{func() { f.Sync("a") }, 2},
		{func() { f.Sync("a") }, 3},
		{func() { f.Rename("a", "") }, 3},
		{func() { f.Rename("none", "b") }, 3},
		{func() { f.Rename("a", "b") }, 4},
		{func() { f.Rename("b", "b") }, 5},
		{func() { f.Delete("a") }, 5},
		{func() { f.Delete("b") }, 6},
		{func() { f.Append("a") }, 7},
		{func() { f.Read("a"); f.Read("none"); f.List(); f.Down(); f.Acts() }, 7},
		{func() { f.Crash(1) }, 7},
		{func() { f.Arm(fate(0, space), fate(2, before)) }, 7},
		{func() { f.Append("a", "2") }, 8},
		{func() { f.Append("a", "3") }, 9},
		{func() { f.Append("a", "4") }, 10},
		{func() { f.Append("a", "5") }, 10},
		{func() { f.Sync("a"); f.Rename("a", "b"); f.Delete("a"); f.Arm() }, 10},
	}
	for i, step := range steps {
		step.do()
		if f.Acts() != step.acts {
			t.Errorf("step %d: %d acts, not %d", i, f.Acts(), step.acts)
		}
	}
	f = f.Crash()
	wantState(t, f, 0, false)
	f.Sync("a")
	wantState(t, f, 1, false)
}

// R5: lists that are handed in stay as they are, their spare memory too, and what is done with them behind the call isn't seen.
func TestNothingChangedNothingKept(t *testing.T) {
	f := New()
	parts := []string{"a", "b", "spare"}
	f.Append("f", parts[:2]...)
	f.Append("f", parts[:2]...)
	fates := []api.Fate{fate(2, after), fate(0, space), fate(0, before), fate(9, 9)}
	was := slices.Clone(fates)
	f.Arm(fates[:2]...)
	keep := []int{3, -1, 9}
	f.Crash(keep[:1]...)
	if !slices.Equal(parts, []string{"a", "b", "spare"}) || !slices.Equal(fates, was) || !slices.Equal(keep, []int{3, -1, 9}) {
		t.Error(parts, fates, keep)
	}
	parts[0], fates[0], fates[1] = "z", fate(0, before), fate(0, before)
	want(t, "act 0", f.Append("f", "c"), api.ErrSpace)
	wantRead(t, f, "f", "abab")
	names, _ := f.List()
	names[0] = "changed"
	wantList(t, f, "f")
	want(t, "act 1", f.Sync("f"), api.OK)
	want(t, "act 2", f.Sync("f"), api.ErrDown)
}

// R5: what is answered is new memory, and names that were handed in aren't kept.
func TestAnswersAreNew(t *testing.T) {
	f := New()
	name := strings.Repeat("n", 30)
	for _, do := range []func(){func() { f.Append(name, "text") }, func() { f.Sync(name) }, func() { f.Rename(name, name) }} {
		do()
		for kept := range f.files {
			if unsafe.StringData(kept) == unsafe.StringData(name) {
				t.Error("the name that was handed in is kept")
			}
		}
	}
	seen := map[*byte]string{unsafe.StringData(name): "the name"}
	apart := func(what, text string) {
		at := unsafe.StringData(text)
		if seen[at] != "" {
			t.Errorf("%s is the memory of %s", what, seen[at])
		}
		seen[at] = what
	}
	for _, each := range []*FS{f, f, f.Crash(9)} {
		names, _ := each.List()
		apart("a name", names[0])
		text, _ := each.Read(name)
		apart("a text", text)
	}
}

// Many small appends, and many fates, take a time that rises as their number does.
func TestManyActs(t *testing.T) {
	f := New()
	const count = 200000
	var fates []api.Fate
	for at := range count {
		fates = append(fates, fate(count-1-at, 9), fate(at+count, before))
	}
	f.Arm(fates...)
	for range count {
		if err := f.Append("a", "x", "", "y"); err != api.OK {
			t.Fatal(err)
		}
	}
	wantRead(t, f, "a", strings.Repeat("xy", count))
	want(t, "the last", f.Append("a"), api.ErrDown)
}
