package mem

import (
	"bytes"
	"fmt"
	"math"
	"slices"
	"strings"
	"testing"
	"unsafe"

	"tarmac/api"
)

func live(key string, seq int, value string) api.Entry {
	return api.Entry{Key: key, Seq: seq, Value: value}
}

func dead(key string, seq int) api.Entry { return api.Entry{Key: key, Seq: seq, Dead: true} }

// heightLists: none, one, several, more than there are towers; at the edges of the modulus and of an int.
func heightLists() [][]int {
	long := make([]int, 5000)
	for i := range long {
		long[i] = i * i
	}
	return [][]int{nil, {}, {0}, {7}, {8}, {3}, {-1}, {-8}, {math.MinInt}, {math.MaxInt}, {0, 1, 0, 2, 0, 1, 0, 7}, {7, 0}, {-1, 99, 8, math.MinInt, 5}, long}
}

// brief: a list's beginning, for a message.
func brief(list any) string {
	text := fmt.Sprintf("%+v", list)
	return fmt.Sprintf("%.400q", text)
}

// less: the order of versions, by other means than the package's own.
func less(a, b api.Entry) bool {
	if order := bytes.Compare([]byte(a.Key), []byte(b.Key)); order != 0 {
		return order < 0
	}
	return a.Seq > b.Seq
}

// wantSound: on every level the towers that reach it stand in order, and none is left out.
func wantSound(t *testing.T, x *Table) {
	t.Helper()
	var towers []*node
	for n := x.head.next[0]; n != nil; n = n.next[0] {
		if len(towers) > 0 && !less(towers[len(towers)-1].Entry, n.Entry) {
			t.Fatalf("%v stands behind %v", n.Entry, towers[len(towers)-1].Entry)
		}
		towers = append(towers, n)
	}
	for level := range x.head.next {
		n := x.head.next[level]
		for _, tower := range towers {
			if len(tower.next) <= level {
				continue
			}
			if n != tower {
				t.Fatalf("level %d leaves out %v", level, tower.Entry)
			}
			n = n.next[level]
		}
		if n != nil {
			t.Fatalf("level %d has %v once more", level, n.Entry)
		}
	}
}

// wantTable: the table has just these versions, and tells of them as the chapter says.
func wantTable(t *testing.T, x *Table, versions ...api.Entry) {
	t.Helper()
	size := 0
	for _, version := range versions {
		size += len(version.Key) + len(version.Value)
	}
	if got := x.All(); !slices.Equal(got, versions) {
		t.Fatalf("All: %s, not %s", brief(got), brief(versions))
	}
	if got := x.From(""); !slices.Equal(got, versions) {
		t.Fatalf("From the empty key: %s, not %s", brief(got), brief(versions))
	}
	if x.Len() != len(versions) || x.Bytes() != size {
		t.Fatalf("Len %d, Bytes %d, not %d, %d", x.Len(), x.Bytes(), len(versions), size)
	}
	wantSound(t, x)
}

func wantGet(t *testing.T, x *Table, key string, at int, version api.Entry) {
	t.Helper()
	if got, ok := x.Get(key, at); !ok || got != version {
		t.Errorf("Get of %q at %d: %v, %v, not %v", key, at, got, ok, version)
	}
}

// wantNone: there is no version, and beside false the answer is zero.
func wantNone(t *testing.T, x *Table, key string, at int) {
	t.Helper()
	if got, ok := x.Get(key, at); ok || got != (api.Entry{}) {
		t.Errorf("Get of %q at %d: %v, %v, not none", key, at, got, ok)
	}
}

func wantFrom(t *testing.T, x *Table, key string, versions ...api.Entry) {
	t.Helper()
	if got := x.From(key); !slices.Equal(got, versions) {
		t.Errorf("From %q: %s, not %s", key, brief(got), brief(versions))
	}
}

// eachTable runs the test on an empty table of each list of heights.
func eachTable(t *testing.T, test func(t *testing.T, x *Table)) {
	for i, heights := range heightLists() {
		t.Run(fmt.Sprint("heights ", i), func(t *testing.T) { test(t, New(heights...)) })
	}
}

// P6.1: the chapter's examples.
func TestExamples(t *testing.T) {
	eachTable(t, func(t *testing.T, x *Table) {
		x.Add(live("a", 1, "x"), dead("a", 3), live("b", 2, "y"))
		wantTable(t, x, dead("a", 3), live("a", 1, "x"), live("b", 2, "y"))
		wantGet(t, x, "a", 2, live("a", 1, "x"))
		wantGet(t, x, "a", 9, dead("a", 3))
		wantNone(t, x, "a", 0)
		if x.Len() != 3 || x.Bytes() != 5 {
			t.Errorf("Len %d, Bytes %d", x.Len(), x.Bytes())
		}
		x.Add(live("a", 1, "z"))
		if x.Len() != 3 {
			t.Errorf("Len %d", x.Len())
		}
		wantGet(t, x, "a", 1, live("a", 1, "z"))
		wantFrom(t, x, "aa", live("b", 2, "y"))
	})
}

// P6.1: a table without versions.
func TestEmptyTable(t *testing.T) {
	eachTable(t, func(t *testing.T, x *Table) {
		for range 2 {
			wantTable(t, x)
			for _, key := range []string{"", "\x00", "a", "\xff\xff"} {
				wantFrom(t, x, key)
				for _, at := range []int{math.MinInt, -1, 0, 1, math.MaxInt} {
					wantNone(t, x, key, at)
				}
			}
		}
	})
}

// P6.1: an Add without entries adds none, to a table with versions and to one without.
func TestAddOfNothing(t *testing.T) {
	eachTable(t, func(t *testing.T, x *Table) {
		x.Add()
		x.Add(nil...)
		x.Add([]api.Entry{}...)
		wantTable(t, x)
		x.Add(live("a", 1, "x"))
		x.Add()
		x.Add([]api.Entry{}...)
		wantTable(t, x, live("a", 1, "x"))
	})
}

// P6.1: of a number h the height is 1 + (h modulo 8), by h's 64 bits; the numbers come in turn, again and again.
func TestTowers(t *testing.T) {
	tests := []struct{ given, towers []int }{
		{nil, []int{1, 1, 1, 1}},
		{[]int{}, []int{1, 1, 1, 1}},
		{[]int{0}, []int{1, 1, 1, 1}},
		{[]int{7}, []int{8, 8, 8, 8}},
		{[]int{8}, []int{1, 1, 1, 1}},
		{[]int{0, 7, 8}, []int{1, 8, 1, 1, 8, 1, 1}},
		{[]int{6, 9, 15, 16, 17}, []int{7, 2, 8, 1, 2, 7, 2}},
		{[]int{-1, -2, -7, -8, -9}, []int{8, 7, 2, 1, 8, 8, 7}},
		{[]int{math.MinInt, math.MaxInt, math.MinInt + 1, math.MaxInt - 1}, []int{1, 8, 2, 7, 1, 8, 2}},
		{[]int{1, 2, 3, 4, 5, 6, 7, 8, 9, 10}, []int{2, 3, 4, 5}},
	}
	for _, test := range tests {
		x := New(test.given...)
		for i := range test.towers {
			x.Add(live(fmt.Sprint(i), i, "v"))
		}
		var towers []int
		for n := x.head.next[0]; n != nil; n = n.next[0] {
			towers = append(towers, len(n.next))
		}
		if !slices.Equal(towers, test.towers) {
			t.Errorf("heights %v: towers %v, not %v", test.given, towers, test.towers)
		}
		wantSound(t, x)
	}
}

// edgeKeys: rising; the empty one, beginnings of others, bytes of 0 and of 255, bytes that are no text's.
func edgeKeys() []string {
	return []string{"", "\x00", "\x00\x00", "\x00\x01", "\x00\xff", "\x01", "A", "a", "a\x00", "a\x00\x00", "a\x00b", "a\x01", "aa", "ab", "a\xff", "a\xff\x00", "b", "\x80", "é", "日", "\xfe\xff", "\xff", "\xff\x00", "\xff\xff", "\xff\xff\xff"}
}

// P6.1: keys rise byte by byte, a beginning ahead of what is longer.
func TestOrderOfKeys(t *testing.T) {
	eachTable(t, func(t *testing.T, x *Table) {
		keys := edgeKeys()
		var versions []api.Entry
		for i, key := range keys {
			versions = append(versions, live(key, i, "v"+key))
		}
		for i := range keys {
			x.Add(versions[i*7%len(keys)])
		}
		wantTable(t, x, versions...)
		for i, key := range keys {
			wantGet(t, x, key, i, versions[i])
			wantGet(t, x, key, math.MaxInt, versions[i])
			wantNone(t, x, key, i-1)
			wantFrom(t, x, key, versions[i:]...)
		}
	})
}

// P6.1: of one key the greatest Seq comes first, below 0 too and at both ends of an int's range.
func TestOrderOfSeqs(t *testing.T) {
	eachTable(t, func(t *testing.T, x *Table) {
		seqs := []int{math.MaxInt, math.MaxInt - 1, 1 << 32, 4, 2, 0, -2, -4, -1 << 32, math.MinInt + 1, math.MinInt}
		var versions []api.Entry
		for i, seq := range seqs {
			versions = append(versions, api.Entry{Key: "k", Seq: seq, Dead: i%3 == 2})
		}
		for i := range seqs {
			x.Add(versions[i*4%len(seqs)])
		}
		x.Add(live("j", 3, "j"), live("l", 3, "l"), live("k\x00", 3, "k0"), live("", 3, ""))
		all := append([]api.Entry{live("", 3, ""), live("j", 3, "j")}, versions...)
		wantTable(t, x, append(all, live("k\x00", 3, "k0"), live("l", 3, "l"))...)
		for _, version := range versions {
			wantGet(t, x, "k", version.Seq, version)
		}
		wantGet(t, x, "k", 5, live("k", 4, ""))
		wantGet(t, x, "k", 3, live("k", 2, ""))
		wantGet(t, x, "k", -1, versions[6])
		wantGet(t, x, "k", math.MaxInt-2, versions[2])
		wantGet(t, x, "k", math.MinInt+2, versions[9])
	})
}

// P6.1: many versions of one key.
func TestManySeqsOfOneKey(t *testing.T) {
	eachTable(t, func(t *testing.T, x *Table) {
		const many = 1000
		for i := range many {
			x.Add(live("k", i*7%many*2-many, fmt.Sprint(i)))
		}
		if x.Len() != many || x.Bytes() != many+10+2*90+3*900 {
			t.Errorf("Len %d, Bytes %d", x.Len(), x.Bytes())
		}
		for at := -many; at < many; at++ {
			got, ok := x.Get("k", at)
			if seq := at - (at+many)%2; !ok || got.Seq != seq {
				t.Fatalf("Get at %d: %v, %v", at, got, ok)
			}
		}
		wantNone(t, x, "k", -many-1)
		wantSound(t, x)
	})
}

// P6.1: one with the same Key and Seq takes the earlier one's place, in Len and Bytes too; others stay.
func TestTakesThePlace(t *testing.T) {
	eachTable(t, func(t *testing.T, x *Table) {
		ahead, behind, other := live("k", 6, "newer"), live("k", 4, "older"), live("l", 5, "other")
		x.Add(ahead, behind, other)
		row := []api.Entry{live("k", 5, "v"), live("k", 5, "longer"), live("k", 5, ""), live("k", 5, "w"), dead("k", 5), dead("k", 5), live("k", 5, "again"), live("k", 5, "again"), dead("k", 5), live("k", 5, "")}
		for _, version := range row {
			x.Add(version)
			wantTable(t, x, ahead, version, behind, other)
			wantGet(t, x, "k", 5, version)
			wantGet(t, x, "k", 6, ahead)
			wantGet(t, x, "k", 4, behind)
		}
		x.Add(append(row, live("k", 5, "last"))...)
		wantTable(t, x, ahead, live("k", 5, "last"), behind, other)
	})
}

// P6.1: the first and the last version too give their place, and the only one.
func TestTakesThePlaceAtTheEnds(t *testing.T) {
	eachTable(t, func(t *testing.T, x *Table) {
		x.Add(live("", 0, "one"))
		x.Add(live("", 0, "two"))
		wantTable(t, x, live("", 0, "two"))
		x.Add(live("m", 1, "m"), live("z", math.MinInt, "last"), live("", math.MaxInt, "first"))
		x.Add(dead("z", math.MinInt), live("", math.MaxInt, "f"))
		wantTable(t, x, live("", math.MaxInt, "f"), live("", 0, "two"), live("m", 1, "m"), dead("z", math.MinInt))
	})
}

// P6.1: a dead one's value counts as empty, in every answer.
func TestDeadHasNoValue(t *testing.T) {
	eachTable(t, func(t *testing.T, x *Table) {
		x.Add(api.Entry{Key: "k", Seq: 2, Dead: true, Value: "lost"})
		wantTable(t, x, dead("k", 2))
		wantGet(t, x, "k", 2, dead("k", 2))
		wantFrom(t, x, "k", dead("k", 2))
		x.Add(live("k", 2, "there"), api.Entry{Key: "k", Seq: 2, Dead: true, Value: strings.Repeat("lost", 100)})
		wantTable(t, x, dead("k", 2))
		if x.Bytes() != 1 {
			t.Errorf("Bytes %d", x.Bytes())
		}
		x.Add(live("k", 1, "")) // alive, though its value is empty
		wantTable(t, x, dead("k", 2), live("k", 1, ""))
	})
}

// P6.1: Get at a Seq, just below and just above one, below all and above all; keys that aren't there have none.
func TestGet(t *testing.T) {
	eachTable(t, func(t *testing.T, x *Table) {
		x.Add(live("b", 10, "ten"), dead("b", 20), live("b", 30, "thirty"), live("d", 5, "five"))
		for at, seq := range map[int]int{10: 10, 11: 10, 19: 10, 20: 20, 21: 20, 29: 20, 30: 30, 31: 30, math.MaxInt: 30} {
			version, ok := x.Get("b", at)
			if !ok || version.Seq != seq || version.Key != "b" || version.Dead != (seq == 20) {
				t.Errorf("Get at %d: %v, %v", at, version, ok)
			}
		}
		for _, at := range []int{math.MinInt, -10, 0, 9} {
			wantNone(t, x, "b", at)
		}
		for _, key := range []string{"", "a", "b\x00", "bb", "c", "d\x00", "c\xff", "e", "\xff"} {
			for _, at := range []int{math.MinInt, 0, 5, 10, 30, math.MaxInt} {
				wantNone(t, x, key, at)
			}
		}
	})
}

// P6.1: From at a key, just below and just above one, ahead of all and behind all.
func TestFrom(t *testing.T) {
	eachTable(t, func(t *testing.T, x *Table) {
		x.Add(live("b", math.MaxInt, "max"), dead("b", 2), live("b", math.MinInt, "min"), live("d", 5, "five"), dead("d\x00", 1))
		all := x.All()
		for key, begin := range map[string]int{"": 0, "a": 0, "a\xff": 0, "b": 0, "b\x00": 3, "bb": 3, "c": 3, "c\xff\xff": 3, "d": 3, "d\x00": 4, "d\x00\x00": 5, "d\x01": 5, "e": 5, "\xff": 5} {
			wantFrom(t, x, key, all[begin:]...)
		}
	})
}

// R5: what the caller does to an answer is seen in no later one, and no two answers share memory.
func TestAnswersAreNew(t *testing.T) {
	eachTable(t, func(t *testing.T, x *Table) {
		versions := []api.Entry{dead("a", 3), live("a", 1, "x"), live("b", 2, "y")}
		x.Add(versions...)
		for _, ask := range []func() []api.Entry{x.All, func() []api.Entry { return x.From("") }, func() []api.Entry { return x.From("a") }} {
			first, second := ask(), ask()
			for i := range first {
				first[i] = live("spoilt", 99, "spoilt")
			}
			_ = append(first[:1], live("spoilt", 99, "spoilt"))
			if !slices.Equal(second, versions) {
				t.Errorf("two answers share memory: %v", second)
			}
			wantTable(t, x, versions...)
		}
		got, _ := x.Get("a", 1)
		got.Value = "spoilt"
		wantGet(t, x, "a", 1, versions[1])
	})
}

// R5: an answer stays what it was, whatever is added later.
func TestAnswersStay(t *testing.T) {
	eachTable(t, func(t *testing.T, x *Table) {
		versions := []api.Entry{live("a", 1, "x"), live("b", 2, "y")}
		x.Add(versions...)
		all, from := x.All(), x.From("b")
		x.Add(live("a", 1, "z"), dead("b", 2), live("aa", 1, "new"), live("c", 1, "new"))
		if !slices.Equal(all, versions) || !slices.Equal(from, versions[1:]) {
			t.Errorf("the answers became %v, %v", all, from)
		}
	})
}

// R5: the lists that are handed in aren't changed, their spare memory neither, and aren't kept.
func TestListsHandedIn(t *testing.T) {
	heights := []int{3, 0, 5, 1}
	x := New(heights[:2]...)
	if !slices.Equal(heights, []int{3, 0, 5, 1}) {
		t.Errorf("the heights became %v", heights)
	}
	heights[0], heights[1] = 7, 7
	list := []api.Entry{{Key: "b", Seq: 1, Dead: true, Value: "lost"}, live("a", 1, "x"), live("b", 1, "y"), live("spare", 9, "spare")}
	was := slices.Clone(list)
	x.Add(list[:3]...)
	if !slices.Equal(list, was) {
		t.Errorf("the entries became %v", list)
	}
	for i := range list {
		list[i] = live("spoilt", 99, "spoilt")
	}
	wantTable(t, x, live("a", 1, "x"), live("b", 1, "y"))
	x.Add(live("c", 1, "z"))
	if x.head.next[3].Key != "b" || x.head.next[3].next[3].Key != "c" || x.head.next[4] != nil {
		t.Error("the list of heights that was handed in is kept")
	}
}

// R5: of the texts that are handed in the table holds copies.
func TestTextsAreNotKept(t *testing.T) {
	text := strings.Repeat("text", 1000)
	entry := live(text[:20], 1, text[20:50])
	x := New()
	for range 2 { // the second takes the first one's place
		x.Add(entry)
		got, _ := x.Get(entry.Key, 1)
		if unsafe.StringData(got.Key) == unsafe.StringData(entry.Key) || unsafe.StringData(got.Value) == unsafe.StringData(entry.Value) {
			t.Error("the texts that were handed in are kept")
		}
	}
}

// R6: two tables have nothing to do with one another, though they were given the same lists.
func TestTablesAreApart(t *testing.T) {
	heights, list := []int{2, 0}, []api.Entry{live("a", 1, "x"), live("b", 2, "y")}
	x, y := New(heights...), New(heights...)
	x.Add(list...)
	wantTable(t, y)
	y.Add(list...)
	x.Add(live("a", 1, "z"), dead("c", 3))
	wantTable(t, x, live("a", 1, "z"), live("b", 2, "y"), dead("c", 3))
	wantTable(t, y, list...)
}
