package merge

import (
	"fmt"
	"math"
	"math/rand"
	"slices"
	"testing"

	"tarmac/api"
)

// The calls on paper: they say the chapter's words by going through lists again and again, and sort nothing.

// paperAhead: does a stand ahead of b in the order of versions?
func paperAhead(a, b api.Entry) bool {
	if a.Key == b.Key {
		return b.Seq < a.Seq
	}
	for i := range min(len(a.Key), len(b.Key)) {
		if a.Key[i] != b.Key[i] {
			return a.Key[i] < b.Key[i]
		}
	}
	return len(a.Key) < len(b.Key)
}

func paperMerge(lists ...[]api.Entry) []api.Entry {
	var merged []api.Entry
	for _, list := range lists {
		for _, version := range list {
			at := 0
			for at < len(merged) && paperAhead(merged[at], version) {
				at++
			}
			if at == len(merged) || paperAhead(version, merged[at]) {
				merged = slices.Insert(merged, at, version)
			}
		}
	}
	return merged
}

// paperNewest: which of the list's versions of the key is the newest that isn't above the number, -1 for none.
func paperNewest(list []api.Entry, key string, at int) int {
	newest := -1
	for i, version := range list {
		if version.Key == key && version.Seq <= at && (newest < 0 || version.Seq > list[newest].Seq) {
			newest = i
		}
	}
	return newest
}

// paperKeys: the keys of the list, each once, rising.
func paperKeys(list []api.Entry) []string {
	set := map[string]int{}
	for _, version := range list {
		set[version.Key]++
	}
	var keys []string
	for key := range set {
		keys = append(keys, key)
	}
	slices.Sort(keys)
	return keys
}

func paperView(list []api.Entry, at int) []api.Entry {
	var view []api.Entry
	for _, key := range paperKeys(list) {
		if i := paperNewest(list, key, at); i >= 0 && !list[i].Dead {
			view = append(view, list[i])
		}
	}
	return view
}

func paperTrim(list []api.Entry, bottom bool, seen ...int) []api.Entry {
	merged := paperMerge(list)
	var stay []api.Entry
	for i, version := range merged {
		stays := paperNewest(merged, version.Key, math.MaxInt) == i
		for _, at := range seen {
			stays = stays || paperNewest(merged, version.Key, at) == i
		}
		if stays {
			stay = append(stay, version)
		}
	}
	for again := bottom; again; {
		again = false
		for i, version := range stay {
			if version.Dead && (i+1 == len(stay) || stay[i+1].Key != version.Key) {
				stay = slices.Delete(stay, i, i+1)
				again = true
				break
			}
		}
	}
	return stay
}

// drawKey: of few keys, so that lists have several versions of one.
func drawKey(r *rand.Rand) string {
	return []string{"", "a", "a\x00", "ab", "b", "\xff"}[r.Intn(6)]
}

// drawSeq: of few numbers, so that several versions have the same.
func drawSeq(r *rand.Rand) int {
	if r.Intn(8) == 0 {
		return []int{math.MinInt, math.MinInt + 1, math.MaxInt - 1, math.MaxInt}[r.Intn(4)]
	}
	return r.Intn(9) - 4
}

// drawList: any versions in any order, with values that are unlike; a dead one has seldom one.
func drawList(r *rand.Rand, most int) []api.Entry {
	var list []api.Entry
	for range r.Intn(most + 1) {
		version := api.Entry{Key: drawKey(r), Seq: drawSeq(r), Dead: r.Intn(2) == 0}
		if !version.Dead || r.Intn(4) == 0 {
			version.Value = fmt.Sprint(r.Intn(1000))
		}
		list = append(list, version)
	}
	return list
}

func drawLists(r *rand.Rand, most int) [][]api.Entry {
	lists := make([][]api.Entry, r.Intn(6))
	for i := range lists {
		lists[i] = drawList(r, most)
	}
	return lists
}

func drawSeen(r *rand.Rand) []int {
	var seen []int
	for range r.Intn(5) {
		seen = append(seen, drawSeq(r))
	}
	return seen
}

// grouped: the lists cut into groups anywhere, each merged, some of these merged again; a merge of nothing between them now and then.
func grouped(r *rand.Rand, lists [][]api.Entry) []api.Entry {
	var groups [][]api.Entry
	for len(lists) > 0 {
		n := 1 + r.Intn(len(lists))
		group := Merge(lists[:n]...)
		if n > 2 && r.Intn(2) == 0 {
			group = grouped(r, lists[:n-1])
			group = Merge(group, lists[n-1])
		}
		groups, lists = append(groups, group), lists[n:]
		if r.Intn(4) == 0 {
			groups = append(groups, Merge())
		}
	}
	return Merge(groups...)
}

// P10.1: Merge of lists by chance, the same in each run, is the one on paper.
func TestDrawnMerges(t *testing.T) {
	r := rand.New(rand.NewSource(101))
	several := 0
	for range 3000 {
		lists := drawLists(r, 12)
		want := paperMerge(lists...)
		wantList(t, Merge(lists...), want, "Merge of %v", lists)
		several += len(slices.Concat(lists...)) - len(want)
	}
	if several < 5000 {
		t.Errorf("only %d versions gave way to another: this test tries too little", several)
	}
}

// P10.2: merges of merges are the merge of all, however they are grouped.
func TestDrawnGroupings(t *testing.T) {
	r := rand.New(rand.NewSource(102))
	for range 1500 {
		lists := drawLists(r, 8)
		all := Merge(lists...)
		wantList(t, all, paperMerge(lists...), "of %v", lists)
		for i := range len(lists) + 1 {
			wantList(t, Merge(Merge(lists[:i]...), Merge(lists[i:]...)), all, "two groups, cut at %d, of %v", i, lists)
			parts := append(slices.Clone(lists[:i]), Merge(lists[i:]...))
			wantList(t, Merge(parts...), all, "the end from %d merged ahead of %v", i, lists)
			parts = append([][]api.Entry{Merge(lists[:i]...)}, lists[i:]...)
			wantList(t, Merge(parts...), all, "the beginning to %d merged ahead of %v", i, lists)
		}
		for range 4 {
			wantList(t, grouped(r, lists), all, "groups of %v", lists)
		}
		one := []api.Entry{}
		for _, list := range lists {
			one = Merge(one, list)
		}
		wantList(t, one, all, "one by one %v", lists)
	}
}

// P10.2: a list merged with itself, however often, is the same as alone.
func TestDrawnWithItself(t *testing.T) {
	r := rand.New(rand.NewSource(103))
	for range 1500 {
		list := drawList(r, 20)
		alone := Merge(list)
		wantList(t, Merge(list, list), alone, "%v twice", list)
		wantList(t, Merge(list, list, list), alone, "%v thrice", list)
		wantList(t, Merge(alone), alone, "the merge of %v", list)
		wantList(t, Merge(alone, alone), alone, "the merge of %v with itself", list)
		wantList(t, Merge(alone, list), alone, "the merge of %v with the list", list)
		wantList(t, Merge(list, alone), alone, "%v with its merge", list)
	}
}

// near: numbers at, right below and right above the given ones, and those far off.
func near(list []api.Entry, seen []int) []int {
	numbers := []int{math.MinInt, math.MinInt + 1, -5, -1, 0, 1, 5, math.MaxInt - 1, math.MaxInt}
	for _, version := range list {
		numbers = append(numbers, version.Seq)
	}
	numbers = append(numbers, seen...)
	for _, n := range slices.Clone(numbers) {
		if n > math.MinInt {
			numbers = append(numbers, n-1)
		}
		if n < math.MaxInt {
			numbers = append(numbers, n+1)
		}
	}
	slices.Sort(numbers)
	return slices.Compact(numbers)
}

// P10.1: View of lists by chance is the one on paper, at every number near theirs; and that of their merge is the same.
func TestDrawnViews(t *testing.T) {
	r := rand.New(rand.NewSource(104))
	for range 1500 {
		list := drawList(r, 15)
		merged := Merge(list)
		for _, at := range near(list, nil) {
			want := paperView(list, at)
			wantList(t, View(list, at), want, "View of %v at %d", list, at)
			wantList(t, View(merged, at), want, "View of %v at %d", merged, at)
		}
	}
}

// seenBehind: P10.3 and P10.4 for one list.
func seenBehind(t *testing.T, list []api.Entry, bottom bool, seen []int) {
	t.Helper()
	trimmed := Trim(list, bottom, seen...)
	wantList(t, trimmed, paperTrim(list, bottom, seen...), "Trim of %v, %t, %v", list, bottom, seen)
	wantList(t, Trim(trimmed, bottom, seen...), trimmed, "Trim again of %v, %t, %v", list, bottom, seen)
	top := math.MinInt
	for _, version := range list {
		top = max(top, version.Seq)
	}
	for _, at := range near(list, seen) {
		if at >= top || slices.Contains(seen, at) {
			wantList(t, View(trimmed, at), View(list, at), "View of Trim of %v, %t, %v at %d", list, bottom, seen, at)
		}
	}
}

// P10.1, P10.3, P10.4: Trim of lists by chance, with and without bottom.
func TestDrawnTrims(t *testing.T) {
	r := rand.New(rand.NewSource(105))
	less := 0
	for range 3000 {
		list, seen := drawList(r, 20), drawSeen(r)
		seenBehind(t, list, false, seen)
		seenBehind(t, list, true, seen)
		less += len(Trim(list, false, seen...)) - len(Trim(list, true, seen...))
	}
	if less < 3000 {
		t.Errorf("only %d versions went at the bottom: this test tries too little", less)
	}
}

// P10.1, P10.3, P10.4: a key with each choice of living, dead and no versions at four numbers, and each choice of numbers around them.
func TestEveryTrim(t *testing.T) {
	for choice := range 81 {
		list := []api.Entry{live("j", 0, "ahead")}
		for seq := range 4 {
			switch choice % 3 {
			case 1:
				list = append(list, live("k", seq*2, fmt.Sprint(seq)))
			case 2:
				list = append(list, gone("k", seq*2))
			}
			choice /= 3
		}
		list = append(list, gone("l", 3), live("l", 2, "behind"))
		for choice := range 512 {
			var seen []int
			for bit := range 9 {
				if choice>>bit&1 == 1 {
					seen = append(seen, bit-1)
				}
			}
			seenBehind(t, list, choice%2 == 0, seen)
			seenBehind(t, list, choice%2 == 1, seen)
		}
	}
}
