package merge

import (
	"fmt"
	"math"
	"math/rand"
	"slices"
	"strings"
	"testing"

	"tarmac/api"
)

func live(key string, seq int, value string) api.Entry {
	return api.Entry{Key: key, Seq: seq, Value: value}
}

func gone(key string, seq int) api.Entry { return api.Entry{Key: key, Seq: seq, Dead: true} }

// left: a dead version that has a value.
func left(key string, seq int, value string) api.Entry {
	return api.Entry{Key: key, Seq: seq, Dead: true, Value: value}
}

// versions: a list written out.
func versions(list ...api.Entry) []api.Entry { return list }

func wantList(t *testing.T, got, want []api.Entry, format string, args ...any) {
	t.Helper()
	if !slices.Equal(got, want) {
		t.Fatalf("%.2000q: %.1000q, not %.1000q", fmt.Sprintf(format, args...), fmt.Sprint(got), fmt.Sprint(want))
	}
}

func wantMerge(t *testing.T, want []api.Entry, lists ...[]api.Entry) {
	t.Helper()
	wantList(t, Merge(lists...), want, "Merge of %v", lists)
}

func wantView(t *testing.T, want, list []api.Entry, at int) {
	t.Helper()
	wantList(t, View(list, at), want, "View of %v at %d", list, at)
}

func wantTrim(t *testing.T, want, list []api.Entry, bottom bool, seen ...int) {
	t.Helper()
	wantList(t, Trim(list, bottom, seen...), want, "Trim of %v, %t, %v", list, bottom, seen)
}

// P10.1: the chapter's examples.
func TestExamples(t *testing.T) {
	wantMerge(t, versions(live("a", 3, "x"), live("a", 1, "w"), live("b", 1, "y")),
		versions(live("a", 3, "x"), live("b", 1, "y")), versions(live("a", 3, "z"), live("a", 1, "w")))
	list := versions(gone("a", 3), live("a", 1, "w"), live("b", 2, "y"))
	wantView(t, versions(live("a", 1, "w"), live("b", 2, "y")), list, 2)
	wantView(t, versions(live("b", 2, "y")), list, 3)
	wantView(t, nil, list, 0)
	list = versions(live("a", 5, "x"), gone("a", 3), live("a", 1, "w"))
	wantTrim(t, list[:1], list, false)
	wantTrim(t, list[:2], list, false, 3)
	wantTrim(t, list[:1], list, true, 3)
	wantTrim(t, nil, versions(gone("a", 5)), true)
	wantTrim(t, versions(gone("a", 5)), versions(gone("a", 5)), false)
}

// P10.1: no lists, and lists without versions.
func TestMergeOfNothing(t *testing.T) {
	wantMerge(t, nil)
	wantMerge(t, nil, nil...)
	wantMerge(t, nil, [][]api.Entry{}...)
	wantMerge(t, nil, nil, nil)
	wantMerge(t, nil, versions(), nil, []api.Entry{})
	one := versions(live("a", 1, "x"))
	wantMerge(t, one, one)
	wantMerge(t, one, nil, one)
	wantMerge(t, one, one, nil)
	wantMerge(t, one, nil, []api.Entry{}, one, nil, []api.Entry{})
}

// P10.1: one list and several, in no order.
func TestMergePutsInOrder(t *testing.T) {
	want := versions(live("a", 5, "p"), gone("a", 4), live("a", -1, "q"), live("b", 9, "r"), live("c", 2, ""), gone("c", 1))
	wantMerge(t, want, want)
	falling := slices.Clone(want)
	slices.Reverse(falling)
	wantMerge(t, want, falling)
	mixed := versions(want[3], want[5], want[0], want[2], want[4], want[1])
	wantMerge(t, want, mixed)
	for i := range len(mixed) + 1 {
		for j := range i + 1 {
			wantMerge(t, want, mixed[i:], mixed[:j], mixed[j:i])
		}
	}
	var ones [][]api.Entry
	for i := range mixed {
		ones = append(ones, mixed[i:i+1])
	}
	wantMerge(t, want, ones...)
}

// risingKeys: the empty one, beginnings of others, bytes of 0 and of 255, bytes that are no text's, long ones.
func risingKeys() []string {
	return []string{"", "\x00", "\x00\x00", "\x00\xff", "\x01", "A", "B", "a", "a\x00", "a\x00\x00", "a\x00b", "a\x01", "aa", "aaa", "ab", "a\xff", "a\xff\x00", "b", strings.Repeat("x", 300), strings.Repeat("x", 300) + "\x00", strings.Repeat("x", 301), "\x80", "é", "日", "\xfe\xff", "\xff", "\xff\x00", "\xff\xff"}
}

// P10.1: keys rise byte by byte, a beginning ahead of what is longer; the Seqs don't count between keys.
func TestOrderOfKeys(t *testing.T) {
	var want []api.Entry
	for i, key := range risingKeys() {
		want = append(want, live(key, i*5%7-3, fmt.Sprint(i)))
	}
	falling := slices.Clone(want)
	slices.Reverse(falling)
	wantMerge(t, want, falling)
	wantMerge(t, want, falling[7:], falling[:7])
	wantView(t, want, falling, 3)
	wantTrim(t, want, falling, true)
	wantTrim(t, want, falling, false, 0)
}

// P10.1: of one key the greatest Seq comes first, below 0 and at both ends of an int's range too.
func TestOrderOfSeqs(t *testing.T) {
	var want []api.Entry
	for _, key := range []string{"", "k"} {
		for _, seq := range []int{math.MaxInt, math.MaxInt - 1, 1 << 40, 10, 9, 1, 0, -1, -9, -10, -1 << 40, math.MinInt + 1, math.MinInt} {
			want = append(want, live(key, seq, fmt.Sprint(seq)))
		}
	}
	mixed := make([]api.Entry, len(want))
	for i := range want {
		mixed[i] = want[i*7%len(want)]
	}
	wantMerge(t, want, mixed)
	wantMerge(t, want, mixed[:9], mixed[9:])
	for i := range 13 {
		wantView(t, versions(want[i], want[13+i]), mixed, want[i].Seq)
		wantTrim(t, slices.Compact(versions(want[0], want[i], want[13], want[13+i])), mixed, false, want[i].Seq)
	}
}

// P10.1: of one Key and Seq in several lists the one of the earliest list stays, living or dead.
func TestEarliestListWins(t *testing.T) {
	for _, key := range []string{"", "k", "\xff\x00"} {
		for _, seq := range []int{math.MinInt, -1, 0, 1, math.MaxInt} {
			kinds := versions(live(key, seq, "x"), live(key, seq, "a"), live(key, seq, ""), gone(key, seq), left(key, seq, "x"), left(key, seq, "z"))
			for _, first := range kinds {
				for _, second := range kinds {
					wantMerge(t, versions(first), versions(first), versions(second))
					wantMerge(t, versions(first), nil, versions(first), versions(), kinds, versions(second))
				}
			}
		}
	}
	// The lists count as they come, not as their versions stand.
	wantMerge(t, versions(live("a", 1, "1"), live("b", 1, "1"), live("c", 1, "2")),
		versions(live("b", 1, "1"), live("a", 1, "1")), versions(live("c", 1, "2"), live("a", 1, "2")), versions(live("a", 1, "3"), live("b", 1, "3"), live("c", 1, "3")))
}

// P10.1: within a list the first stays.
func TestFirstOfAListWins(t *testing.T) {
	wantMerge(t, versions(live("k", 1, "x")), versions(live("k", 1, "x"), live("k", 1, "a"), gone("k", 1), live("k", 1, "z")))
	wantMerge(t, versions(gone("k", 1)), versions(gone("k", 1), live("k", 1, "a"), gone("k", 1)))
	wantMerge(t, versions(live("k", 2, "z"), live("k", 1, "z")),
		versions(live("k", 1, "z"), live("k", 2, "z"), live("k", 1, "y"), live("k", 2, "a")), versions(live("k", 2, "b"), live("k", 1, "b")))
	// With many of them an order that isn't stable would show.
	var list, want []api.Entry
	for i := range 1000 {
		list = append(list, live(fmt.Sprint(i*7%10), i*3%5, fmt.Sprint(i)))
	}
	for key := range 10 {
		for seq := 4; seq >= 0; seq-- {
			first := slices.IndexFunc(list, func(version api.Entry) bool { return version.Key == fmt.Sprint(key) && version.Seq == seq })
			if first >= 0 {
				want = append(want, list[first])
			}
		}
	}
	wantMerge(t, want, list)
	wantMerge(t, want, list[:500], list[500:])
}

// P10.1: versions of one key with unlike Seqs, and of one Seq with unlike keys, all stay, whatever their values.
func TestUnlikeVersionsStay(t *testing.T) {
	want := versions(live("a", 2, "x"), live("a", 1, "x"), live("a\x00", 1, "x"), live("b", 2, "x"), live("b", 1, "x"))
	wantMerge(t, want, want)
	wantMerge(t, want, want[3:], want[:3])
}

// P10.1: a dead version's value stays as it is.
func TestDeadWithValue(t *testing.T) {
	list := versions(left("a", 3, "lost"), live("a", 1, "x"), left("b", 2, "lost"))
	wantMerge(t, list, list)
	wantMerge(t, list, list[1:], list)
	wantTrim(t, versions(list[0], list[2]), list, false)
	wantTrim(t, list, list, false, 1)
	wantTrim(t, list[:2], list, true, 1)
	wantTrim(t, nil, list, true)
	wantView(t, nil, list, 3)
	wantView(t, list[1:2], list, 2)
}

// P10.1: View below all Seqs, at one, between two, above all.
func TestViewAtNumbers(t *testing.T) {
	for _, key := range []string{"", "k", "\xff"} {
		list := versions(live(key, 10, "new"), live(key, -5, "old"), live(key, 4, "mid"))
		for _, at := range []int{math.MinInt, -100, -6} {
			wantView(t, nil, list, at)
		}
		for _, at := range []int{-5, -4, 0, 3} {
			wantView(t, list[1:2], list, at)
		}
		for _, at := range []int{4, 5, 9} {
			wantView(t, list[2:], list, at)
		}
		for _, at := range []int{10, 11, math.MaxInt} {
			wantView(t, list[:1], list, at)
		}
	}
	for _, at := range []int{math.MinInt, -1, 0, 1, math.MaxInt} {
		wantView(t, nil, nil, at)
		wantView(t, nil, []api.Entry{}, at)
	}
}

// P10.1: View at the ends of an int's range, of versions that stand there.
func TestViewAtTheEnds(t *testing.T) {
	low, high := live("k", math.MinInt, "low"), live("k", math.MaxInt, "high")
	for _, list := range [][]api.Entry{{low, high}, {high, low}} {
		wantView(t, versions(low), list, math.MinInt)
		wantView(t, versions(low), list, math.MinInt+1)
		wantView(t, versions(low), list, math.MaxInt-1)
		wantView(t, versions(high), list, math.MaxInt)
	}
	wantView(t, nil, versions(gone("k", math.MaxInt), low), math.MaxInt)
	wantView(t, versions(low), versions(gone("k", math.MaxInt), low), math.MaxInt-1)
	wantView(t, nil, versions(high, gone("k", math.MinInt)), math.MinInt)
}

// P10.1: a dead version as the newest hides the key, and no other one; nothing older is seen through it.
func TestViewOfDeadVersions(t *testing.T) {
	list := versions(live("b", 1, "b1"), gone("b", 3), live("a", 2, "a2"), live("b", 5, "b5"), gone("c", 2), live("d", 3, "d3"))
	wantView(t, versions(live("b", 1, "b1")), list, 1)
	wantView(t, versions(live("a", 2, "a2"), live("b", 1, "b1")), list, 2)
	wantView(t, versions(live("a", 2, "a2"), live("d", 3, "d3")), list, 3)
	wantView(t, versions(live("a", 2, "a2"), live("d", 3, "d3")), list, 4)
	wantView(t, versions(live("a", 2, "a2"), live("b", 5, "b5"), live("d", 3, "d3")), list, 5)
}

// P10.1: of several of one Key and Seq the first of the list counts, even if it is dead.
func TestViewOfSeveral(t *testing.T) {
	list := versions(live("k", 1, "old"), live("k", 2, "first"), gone("k", 2), live("k", 2, "a"), live("k", 1, "older"))
	wantView(t, versions(live("k", 2, "first")), list, 2)
	wantView(t, versions(live("k", 1, "old")), list, 1)
	list = versions(gone("k", 2), live("k", 2, "second"), live("k", 1, "old"), gone("k", 1))
	wantView(t, nil, list, 2)
	wantView(t, versions(live("k", 1, "old")), list, 1)
}

// P10.1: a view holds at most one version of a key, and a value without bytes is one that is seen.
func TestViewOfEmptyValues(t *testing.T) {
	list := versions(live("", 2, ""), live("", 1, "x"), live("a", 1, ""))
	wantView(t, versions(live("", 2, ""), live("a", 1, "")), list, 2)
	wantView(t, versions(live("", 1, "x"), live("a", 1, "")), list, 1)
}

// P10.1: without numbers the newest of each key stays.
func TestTrimWithoutNumbers(t *testing.T) {
	for _, bottom := range []bool{false, true} {
		wantTrim(t, nil, nil, bottom)
		wantTrim(t, nil, []api.Entry{}, bottom, 1, 2)
		list := versions(live("b", 1, "old"), live("a", math.MinInt, "only"), live("b", 7, "new"), live("b", 3, "mid"))
		wantTrim(t, versions(list[1], list[2]), list, bottom)
		wantTrim(t, versions(list[1], list[2]), list, bottom, []int{}...)
	}
}

// P10.1: one number and several, in any order, the same twice, below and above all Seqs.
func TestTrimWithNumbers(t *testing.T) {
	a, b, c, d := live("k", 9, "a"), live("k", 6, "b"), live("k", 3, "c"), live("k", -2, "d")
	tests := []struct {
		seen []int
		want []api.Entry
	}{
		{[]int{9}, versions(a)},
		{[]int{10, math.MaxInt}, versions(a)},
		{[]int{-3, math.MinInt}, versions(a)},
		{[]int{8}, versions(a, b)},
		{[]int{6}, versions(a, b)},
		{[]int{5}, versions(a, c)},
		{[]int{3}, versions(a, c)},
		{[]int{2}, versions(a, d)},
		{[]int{-2}, versions(a, d)},
		{[]int{7, 6, 8, 7}, versions(a, b)},
		{[]int{4, 4}, versions(a, c)},
		{[]int{-2, 6}, versions(a, b, d)},
		{[]int{6, -2}, versions(a, b, d)},
		{[]int{math.MaxInt, 0, math.MinInt, 3, 0}, versions(a, c, d)},
		{[]int{4, 7, 1}, versions(a, b, c, d)},
		{[]int{1, 4, 7}, versions(a, b, c, d)},
		{[]int{7, 4, 1, 100, -100, 1, 4, 7}, versions(a, b, c, d)},
	}
	for _, test := range tests {
		for _, bottom := range []bool{false, true} {
			wantTrim(t, test.want, versions(c, a, d, b), bottom, test.seen...)
			wantTrim(t, test.want, versions(a, b, c, d), bottom, test.seen...)
		}
	}
}

// P10.1: each key is trimmed by its own versions; a number keeps one of each.
func TestTrimOfKeys(t *testing.T) {
	list := versions(live("a", 8, "1"), live("a", 4, "2"), live("b", 3, "3"), gone("b", 2), live("b", 1, "4"), live("c", 9, "5"), live("c", 7, "6"))
	wantTrim(t, versions(list[0], list[2], list[5]), list, false)
	wantTrim(t, versions(list[0], list[1], list[2], list[5]), list, false, 4)
	wantTrim(t, versions(list[0], list[1], list[2], list[5], list[6]), list, false, 7)
	wantTrim(t, versions(list[0], list[2], list[3], list[5]), list, false, 2)
	wantTrim(t, versions(list[0], list[2], list[5]), list, true, 2)
	wantTrim(t, versions(list[0], list[2], list[3], list[4], list[5]), list, true, 2, 1)
}

// P10.1: numbers at the ends of an int's range, and versions there.
func TestTrimAtTheEnds(t *testing.T) {
	high, mid, low := live("k", math.MaxInt, "h"), live("k", 0, "m"), live("k", math.MinInt, "l")
	list := versions(low, mid, high)
	for _, bottom := range []bool{false, true} {
		wantTrim(t, versions(high), list, bottom, math.MaxInt)
		wantTrim(t, versions(high, mid), list, bottom, math.MaxInt-1)
		wantTrim(t, versions(high, low), list, bottom, math.MinInt)
		wantTrim(t, versions(high, low), list, bottom, -1)
		wantTrim(t, versions(high, mid, low), list, bottom, math.MaxInt-1, math.MinInt)
	}
}

// P10.1: Trim is of Merge(list): of several of one Key and Seq the first is the one that stays or goes.
func TestTrimOfSeveral(t *testing.T) {
	list := versions(live("k", 1, "old"), gone("k", 2), live("k", 2, "second"), gone("k", 1))
	wantTrim(t, versions(gone("k", 2)), list, false)
	wantTrim(t, nil, list, true)
	wantTrim(t, versions(gone("k", 2), live("k", 1, "old")), list, true, 1)
	wantTrim(t, versions(gone("k", 2), live("k", 1, "old")), list, false, 2, 1)
}

// P10.1: at the bottom dead ones go from the oldest on, as far as they reach, and none else.
func TestTrimAtTheBottom(t *testing.T) {
	tests := []struct{ list, top, bottom []api.Entry }{
		{versions(gone("k", 3), gone("k", 2), gone("k", 1)), versions(gone("k", 3), gone("k", 2), gone("k", 1)), nil},
		{versions(live("k", 3, "x"), gone("k", 2), gone("k", 1)), versions(live("k", 3, "x"), gone("k", 2), gone("k", 1)), versions(live("k", 3, "x"))},
		{versions(live("k", 3, "x"), gone("k", 2), live("k", 1, "y")), versions(live("k", 3, "x"), gone("k", 2), live("k", 1, "y")), versions(live("k", 3, "x"), gone("k", 2), live("k", 1, "y"))},
		{versions(gone("k", 3), live("k", 2, "x"), gone("k", 1)), versions(gone("k", 3), live("k", 2, "x"), gone("k", 1)), versions(gone("k", 3), live("k", 2, "x"))},
		{versions(gone("k", 3), gone("k", 2), live("k", 1, "x")), versions(gone("k", 3), gone("k", 2), live("k", 1, "x")), versions(gone("k", 3), gone("k", 2), live("k", 1, "x"))},
		// A living one at 0 that no number sees keeps nothing from going.
		{versions(gone("k", 3), gone("k", 1), live("k", 0, "x")), versions(gone("k", 3), gone("k", 1)), nil},
		{versions(live("k", 9, "x"), gone("k", 1), live("k", 0, "y")), versions(live("k", 9, "x"), gone("k", 1)), versions(live("k", 9, "x"))},
	}
	for _, test := range tests {
		wantTrim(t, test.top, test.list, false, 1, 2, 3)
		wantTrim(t, test.bottom, test.list, true, 1, 2, 3)
	}
}

// P10.1: what goes of one key at the bottom leaves its neighbours as they are.
func TestBottomOfNeighbours(t *testing.T) {
	list := versions(live("a", 2, "x"), gone("b", 4), gone("b", 1), live("c", 3, "y"), gone("c", 1), gone("d", 9), gone("d", 5), live("d", 1, "z"), gone("e", 1))
	wantTrim(t, versions(list[0], list[1], list[3], list[5]), list[:8], false)
	wantTrim(t, versions(list[0], list[3]), list, true)
	wantTrim(t, list, list, false, 1, 5)
	wantTrim(t, versions(list[0], list[3], list[5], list[6], list[7]), list, true, 5, 1)
	wantTrim(t, nil, versions(gone("", 1), gone("a", 1), gone("a\x00", 1), gone("b", 1)), true, 1, 0, 2)
}

// P10.1: many versions in any order, and many numbers.
func TestManyVersions(t *testing.T) {
	r := rand.New(rand.NewSource(110))
	const keys, seqs = 20000, 5
	var all, newest, odd []api.Entry
	for key := range keys {
		for seq := seqs - 1; seq >= 0; seq-- {
			all = append(all, live(fmt.Sprintf("%06d", key), seq, fmt.Sprint(key, seq)))
		}
		of := all[len(all)-seqs:]
		newest = append(newest, of[0])
		odd = append(odd, of[0], of[1], of[3])
	}
	list := slices.Clone(all)
	r.Shuffle(len(list), func(i, j int) { list[i], list[j] = list[j], list[i] })
	wantList(t, Merge(list[:30000], list[20000:], list[:50000]), all, "Merge")
	wantList(t, View(list, seqs), newest, "View")
	wantList(t, Trim(list, true), newest, "Trim")
	numbers := make([]int, 50000)
	for i := range numbers {
		numbers[i] = []int{1, 3, seqs + i, -1 - i}[i%4]
	}
	wantList(t, Trim(list, true, numbers...), odd, "Trim with numbers")
	one := make([]api.Entry, 50000)
	fourth := []api.Entry{}
	for i := range one {
		one[i] = live("k", -i, fmt.Sprint(i))
		if i%4 == 0 {
			fourth = append(fourth, one[i])
		}
	}
	wantList(t, Trim(one, false, numbers...), fourth, "Trim of one key")
}

// P10.1: very many lists.
func TestManyLists(t *testing.T) {
	var lists [][]api.Entry
	var want []api.Entry
	for i := range 20000 {
		lists = append(lists, versions(live("k", i%1000, fmt.Sprint(i))))
	}
	for seq := 999; seq >= 0; seq-- {
		want = append(want, live("k", seq, fmt.Sprint(seq)))
	}
	wantList(t, Merge(lists...), want, "Merge")
}

// call: one of the calls on a list, in a form that all share.
type call struct {
	name string
	ask  func(list []api.Entry) []api.Entry
}

func calls() []call {
	return []call{
		{"Merge of one", func(list []api.Entry) []api.Entry { return Merge(list) }},
		{"Merge behind nil", func(list []api.Entry) []api.Entry { return Merge(nil, list) }},
		{"Merge with itself", func(list []api.Entry) []api.Entry { return Merge(list, list) }},
		{"Merge of its halves", func(list []api.Entry) []api.Entry { return Merge(list[:len(list)/2], list[len(list)/2:]) }},
		{"View", func(list []api.Entry) []api.Entry { return View(list, 2) }},
		{"View of all", func(list []api.Entry) []api.Entry { return View(list, math.MaxInt) }},
		{"Trim", func(list []api.Entry) []api.Entry { return Trim(list, false) }},
		{"Trim at the bottom", func(list []api.Entry) []api.Entry { return Trim(list, true, 2) }},
		{"Trim of nothing", func(list []api.Entry) []api.Entry { return Trim(list, false, 1, 2, 3, 4, 5) }},
	}
}

// handedIn: lists in order and in none, with versions twice, and one whose versions all stay.
func handedIn() [][]api.Entry {
	return [][]api.Entry{
		{live("a", 1, "x")},
		{live("a", 2, "x"), live("b", 1, "y"), live("c", 1, "z")},
		{gone("c", 1), live("b", 2, "y"), live("a", 1, "x"), live("b", 3, "w"), live("b", 2, "again"), gone("a", 1)},
		{left("b", 1, "lost"), left("a", 2, "lost"), live("a", 1, "x"), live("a", 1, "y"), gone("a", 3), live("a", 2, "z")},
	}
}

// R5: the lists that are handed in stay as they were, their spare memory too.
func TestListsHandedIn(t *testing.T) {
	for _, c := range calls() {
		for _, list := range handedIn() {
			whole := append(slices.Clone(list), live("", 9, "spare"), gone("spare", 8), live("a", 1, "spare"))
			kept := slices.Clone(whole)
			for n := range len(list) + 1 {
				c.ask(whole[:n])
				wantList(t, whole, kept, "%s", c.name)
			}
		}
	}
}

// R5: the row of lists that Merge is given, and the row of numbers that Trim is given, stay as they were, their spare memory too.
func TestRowsHandedIn(t *testing.T) {
	lists := append(handedIn(), nil, versions(live("spare", 1, "")))
	lists[0], lists[3] = lists[3], lists[0]
	kept := make([][]api.Entry, len(lists))
	for i := range lists {
		kept[i] = slices.Clone(lists[i])
	}
	for n := range len(lists) {
		Merge(lists[:n]...)
		for i := range lists {
			wantList(t, lists[i], kept[i], "list %d behind Merge of %d", i, n)
		}
	}
	numbers := []int{5, 1, 3, 1, math.MinInt, 2, 9, 7}
	was := slices.Clone(numbers)
	for n := range len(numbers) {
		for _, list := range handedIn() {
			Trim(list, true, numbers[:n]...)
			Trim(list, false, numbers[:n]...)
			if !slices.Equal(numbers, was) {
				t.Fatalf("behind Trim with %d numbers: %v, not %v", n, numbers, was)
			}
		}
	}
}

// R5: what the caller does to an answer, its spare memory too, is seen neither in what was handed in nor in another answer.
func TestAnswersAreNew(t *testing.T) {
	for _, c := range calls() {
		for _, list := range handedIn() {
			kept := slices.Clone(list)
			first, second := c.ask(list), c.ask(list)
			want := slices.Clone(second)
			for i := range first[:cap(first)] {
				first[:cap(first)][i] = live("changed", i, "changed")
			}
			wantList(t, list, kept, "%s", c.name+", the list")
			wantList(t, second, want, "%s", c.name+", the second answer")
		}
	}
}

// R5: what the caller does later to what was handed in isn't seen in the answer.
func TestListsAreNotKept(t *testing.T) {
	for _, c := range calls() {
		for _, list := range handedIn() {
			answer := c.ask(list)
			want := slices.Clone(answer)
			for i := range list {
				list[i] = gone("changed", i)
			}
			wantList(t, answer, want, "%s", c.name)
		}
	}
}

// R3, R4: nil and empty are the same, and the same call has the same answer, whatever was asked between.
func TestSameAgain(t *testing.T) {
	for _, c := range calls() {
		wantList(t, c.ask(nil), nil, "%s", c.name)
		wantList(t, c.ask([]api.Entry{}), nil, "%s", c.name)
		for _, list := range handedIn() {
			first := c.ask(list)
			Merge(handedIn()...)
			Trim(list, true)
			wantList(t, c.ask(list), first, "%s", c.name)
		}
	}
}
