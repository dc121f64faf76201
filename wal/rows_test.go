package wal

import (
	"fmt"
	"math/rand"
	"slices"
	"strings"
	"testing"

	"tarmac/api"
	"tarmac/vfs"
)

// paper is a file system with logs, on paper: it says the chapter's words by other means than the package's own. A sheet's bytes are synced up to a place.
type paper struct {
	sheets map[string]sheet
	fates  map[int]int // by the acts ahead of them
	acts   int
	down   bool
}

type sheet struct{ synced, loose string }

// slip is a log on paper.
type slip struct {
	name  string
	torn  bool
	count int
}

// act does one act: its effect, if its fate lets it.
func (p *paper) act(appends bool, effect func()) api.Errno {
	kind := p.fates[p.acts]
	p.acts++
	switch {
	case appends && kind == space:
		return api.ErrSpace
	case kind != before:
		effect()
	}
	if kind == before || kind == after {
		p.down = true
		return api.ErrDown
	}
	return api.OK
}

// put is the row of acts that Append and Rewrite end with.
func (p *paper) put(name string, payloads []string) api.Errno {
	err := p.act(true, func() {
		was := p.sheets[name]
		p.sheets[name] = sheet{was.synced, was.loose + framesOf(payloads...)}
	})
	if err != api.OK {
		return err
	}
	return p.act(false, func() {
		was := p.sheets[name]
		p.sheets[name] = sheet{was.synced + was.loose, ""}
	})
}

func anyLong(payloads []string) bool {
	return slices.ContainsFunc(payloads, func(x string) bool { return len(x) > 65536 })
}

func (p *paper) append(l *slip, payloads []string) api.Errno {
	switch {
	case p.down:
		return api.ErrDown
	case l.torn:
		return api.ErrTorn
	case anyLong(payloads):
		return api.ErrLong
	case len(payloads) == 0:
		return api.OK
	}
	err := p.put(l.name, payloads)
	if err == api.OK {
		l.count += len(payloads)
	}
	return err
}

func (p *paper) rewrite(name string, payloads []string) api.Errno {
	_, there := p.sheets[name]
	switch {
	case anyLong(payloads):
		return api.ErrLong
	case p.down:
		return api.ErrDown
	case name == "" || len(name) > 40:
		return api.ErrName
	case there:
		if err := p.act(false, func() { delete(p.sheets, name) }); err != api.OK {
			return err
		}
	}
	return p.put(name, payloads)
}

// open knows the payloads that were written, and takes as many as are whole in the sheet's bytes.
func (p *paper) open(name string, written []string) (*slip, []string, api.Errno) {
	if p.down {
		return nil, nil, api.ErrDown
	}
	if name == "" || len(name) > 40 {
		return nil, nil, api.ErrName
	}
	text := p.sheets[name].synced + p.sheets[name].loose
	whole := 0
	for whole < len(written) && strings.HasPrefix(text, framesOf(written[:whole+1]...)) {
		whole++
	}
	torn := text != framesOf(written[:whole]...)
	return &slip{name, torn, whole}, written[:whole], api.OK
}

// crash keeps the same number of loose bytes of each sheet.
func (p *paper) crash(keep int) *paper {
	found := &paper{sheets: map[string]sheet{}}
	for name, was := range p.sheets {
		found.sheets[name] = sheet{synced: was.synced + was.loose[:min(keep, len(was.loose))]}
	}
	return found
}

func (p *paper) files(keep int) string {
	names := []string{}
	for name := range p.sheets {
		names = append(names, name)
	}
	slices.Sort(names)
	text := ""
	for _, name := range names {
		text += name + "=" + p.crash(keep).sheets[name].synced + ";"
	}
	return text
}

func (p *paper) told() string {
	return fmt.Sprintf("%q, synced %q, acts %d, down %v", p.files(1<<30), p.files(0), p.acts, p.down)
}

func anyPayloads(source *rand.Rand) []string {
	list := make([]string, source.Intn(4))
	for i := range list {
		payload := make([]byte, source.Intn(4))
		source.Read(payload)
		list[i] = string(payload)
	}
	if source.Intn(12) == 0 {
		list = append(list, tooLong())
	}
	return list
}

func anyName(source *rand.Rand) string {
	if source.Intn(10) == 0 {
		return wrongNames()[source.Intn(3)]
	}
	return []string{"log", "two"}[source.Intn(2)]
}

// desk is a file system with logs, and the same on paper.
type desk struct {
	f       *vfs.FS
	p       *paper
	logs    map[string]*Log
	slips   map[string]*slip
	written map[string][]string // by name, the payloads in the order in which they were written
	seen    map[api.Errno]int
}

func (d *desk) same(t *testing.T, what string, got, err api.Errno) {
	t.Helper()
	want(t, what, got, err)
	d.seen[err]++
	if now, paper := told(d.f), d.p.told(); now != paper {
		t.Fatalf("%s: %s; not %s", what, now, paper)
	}
	for name, l := range d.logs {
		if l.Count() != d.slips[name].count || l.Torn() != d.slips[name].torn {
			t.Fatalf("%s: Count %d, torn %v; not %v", what, l.Count(), l.Torn(), *d.slips[name])
		}
	}
}

func (d *desk) open(t *testing.T, name string) {
	t.Helper()
	l, payloads, got := Open(d.f, name)
	s, first, err := d.p.open(name, d.written[name])
	if !slices.Equal(payloads, first) || (l == nil) != (s == nil) {
		t.Fatalf("Open: %q, not %q", payloads, first)
	}
	if err == api.OK {
		d.logs[name], d.slips[name], d.written[name] = l, s, slices.Clone(first)
	}
	d.same(t, "Open", got, err)
}

func (d *desk) append(t *testing.T, name string, payloads []string) {
	t.Helper()
	if d.logs[name] == nil {
		return
	}
	got, err := d.logs[name].Append(payloads...), d.p.append(d.slips[name], payloads)
	if err == api.OK || err == api.ErrDown && !anyLong(payloads) && strings.HasSuffix(d.p.crash(1 << 30).sheets[name].synced, framesOf(payloads...)) {
		d.written[name] = append(d.written[name], payloads...)
	}
	d.same(t, "Append", got, err)
}

// rewrite leaves the log that is open on the name, as nobody else may write to its file.
func (d *desk) rewrite(t *testing.T, name string, payloads []string) {
	t.Helper()
	delete(d.logs, name)
	was := d.p.files(1 << 30)
	got, err := Rewrite(d.f, name, payloads...), d.p.rewrite(name, payloads)
	if d.p.files(1<<30) != was || err == api.OK {
		d.written[name] = payloads
	}
	d.same(t, "Rewrite", got, err)
}

func (d *desk) crash(keep int) {
	names, _ := d.f.Crash().List()
	d.f, d.p = d.f.Crash(slices.Repeat([]int{keep}, len(names))...), d.p.crash(keep)
	clear(d.logs)
}

func (d *desk) arm(source *rand.Rand) {
	var fates []api.Fate
	d.p.fates = map[int]int{}
	for at := range 12 {
		if kind := source.Intn(12); kind <= space {
			fates = append(fates, fate(at, kind))
			d.p.fates[d.p.acts+at] = kind
		}
	}
	d.f.Arm(fates...)
}

// P5.1, P5.2, P5.3: in rows of calls by chance, the same in each run, each is answered as the paper says, and does just its acts.
func TestRowsOfCalls(t *testing.T) {
	source := rand.New(rand.NewSource(5))
	seen := map[api.Errno]int{}
	for range 300 {
		d := &desk{vfs.New(), &paper{sheets: map[string]sheet{}}, map[string]*Log{}, map[string]*slip{}, map[string][]string{}, seen}
		for range 60 {
			name, payloads := anyName(source), anyPayloads(source)
			switch n := source.Intn(20); {
			case n < 4:
				d.open(t, name)
			case n < 15:
				d.append(t, name, payloads)
			case n < 17:
				d.rewrite(t, name, payloads)
			case n < 18:
				d.arm(source)
			default:
				d.crash(source.Intn(40))
			}
		}
	}
	for _, err := range []api.Errno{api.OK, api.ErrDown, api.ErrTorn, api.ErrLong, api.ErrName, api.ErrSpace} {
		if seen[err] < 50 {
			t.Errorf("error %d came %d times: the rows say too little", err, seen[err])
		}
	}
}

// wantLasting: what is found are first ones of all, at least those that were answered by OK; what is beyond these are first ones of the list under way.
func wantLasting(t *testing.T, found, sure, underway []string) {
	t.Helper()
	all := append(slices.Clone(sure), underway...)
	if len(found) < len(sure) || len(found) > len(all) || !slices.Equal(found, all[:len(found)]) {
		t.Fatalf("%q is found, where %q were answered by OK and %q were under way", found, sure, underway)
	}
}

// P5.2: of payloads appended to a new log, with the power going at each act, and whatever a Crash keeps.
func TestItLasts(t *testing.T) {
	source := rand.New(rand.NewSource(6))
	for range 20 {
		lists := make([][]string, 6)
		for i := range lists {
			lists[i] = anyPayloads(source)
		}
		for at := range 13 {
			for _, kind := range []int{before, after} {
				f := vfs.New()
				l := opened(t, f, "log", false)
				f.Arm(fate(at, kind), fate(source.Intn(12), space), fate(source.Intn(12), space))
				var sure, underway []string
				for _, list := range lists {
					switch err := l.Append(list...); {
					case err == api.OK:
						sure = append(sure, list...)
					case err == api.ErrDown && underway == nil:
						underway = list
					case err == api.ErrDown || err == api.ErrSpace || err == api.ErrLong:
					default:
						t.Fatalf("Append: error %d", err)
					}
					wantCount(t, l, len(sure))
				}
				for keep := range len(framesOf(underway...)) + 2 {
					_, found, _ := Open(f.Crash(keep), "log")
					wantLasting(t, found, sure, underway)
				}
			}
		}
	}
}

// P5.2, P5.3: again and again: the power goes, the log is found, rewritten if it is torn, and appended to anew.
func TestItLastsAgainAndAgain(t *testing.T) {
	source := rand.New(rand.NewSource(7))
	torn := 0
	for range 200 {
		f := vfs.New()
		var sure, underway []string
		for range 20 {
			l, found, err := Open(f, "log")
			want(t, "Open", err, api.OK)
			wantLasting(t, found, sure, underway)
			sure, underway = found, nil
			if l.Torn() {
				torn++
				want(t, "Rewrite", Rewrite(f, "log", found...), api.OK)
				l = opened(t, f, "log", false, found...)
			}
			f.Arm(fate(source.Intn(8), before+source.Intn(2)))
			for range 3 {
				list := anyPayloads(source)
				switch l.Append(list...) {
				case api.OK:
					sure = append(slices.Clone(sure), list...)
				case api.ErrDown:
					if underway == nil {
						underway = list
					}
				}
			}
			f = f.Crash(source.Intn(40))
		}
	}
	if torn < 100 {
		t.Errorf("%d logs were torn: the rows say too little", torn)
	}
}

// R4: the same row of calls on a new one gives the same answers.
func TestSameRowSameAnswers(t *testing.T) {
	var first string
	for range 5 {
		source := rand.New(rand.NewSource(8))
		f, answers := vfs.New(), ""
		for range 200 {
			l, found, err := Open(f, "log")
			answers += fmt.Sprint(found, err)
			if err != api.OK || l.Torn() {
				f = f.Crash(source.Intn(30))
				answers += fmt.Sprint(Rewrite(f, "log", anyPayloads(source)...))
				continue
			}
			f.Arm(fate(source.Intn(4), 1+source.Intn(3)))
			answers += fmt.Sprint(l.Append(anyPayloads(source)...), l.Count(), told(f))
		}
		if first == "" {
			first = answers
		}
		if answers != first {
			t.Fatal("other answers to the same calls")
		}
	}
}
