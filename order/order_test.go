package order

import (
	"encoding/binary"
	"encoding/hex"
	"math"
	"math/rand"
	"regexp"
	"slices"
	"strings"
	"testing"
	"unsafe"

	"tarmac/api"
)

func number(n int) api.Part { return api.Part{Kind: 1, Int: n} }

func words(text string) api.Part { return api.Part{Kind: 2, Text: text} }

// bytesOf: a right part's bytes, written by other means than the package's own.
func bytesOf(part api.Part) string {
	if part.Kind == 1 {
		return "\x01" + string(binary.BigEndian.AppendUint64(nil, uint64(part.Int)+1<<63))
	}
	text := []byte{2}
	for i := range len(part.Text) {
		text = append(text, part.Text[i])
		if part.Text[i] == 0 {
			text = append(text, 0xff)
		}
	}
	return string(append(text, 0, 0))
}

// below: does the one right part come ahead of the other, by the chapter's words?
func below(a, b api.Part) bool {
	if a.Kind != b.Kind {
		return a.Kind == 1
	}
	if a.Kind == 1 {
		return a.Int < b.Int
	}
	for i := range len(a.Text) {
		if i == len(b.Text) {
			return false
		}
		if a.Text[i] != b.Text[i] {
			return a.Text[i] < b.Text[i]
		}
	}
	return len(a.Text) < len(b.Text)
}

// orderOf: the order of lists of right parts, by the chapter's words.
func orderOf(a, b []api.Part) int {
	for i := 0; i < len(a) && i < len(b); i++ {
		if a[i] != b[i] {
			if below(a[i], b[i]) {
				return -1
			}
			return 1
		}
	}
	switch {
	case len(a) < len(b):
		return -1
	case len(a) > len(b):
		return 1
	}
	return 0
}

// rightParts: the least and the greatest number, those about 0 and where another byte counts; texts with 00 and ff at all places, beginnings of others, the parts' own marks.
func rightParts() []api.Part {
	list := []api.Part{}
	for _, n := range []int{math.MinInt, math.MinInt + 1, -1 << 32, -257, -256, -255, -2, -1, 0, 1, 2, 127, 128, 255, 256, 65535, 65536, 1 << 32, math.MaxInt - 1, math.MaxInt} {
		list = append(list, number(n))
	}
	texts := []string{"", "a", "ab", "abc", "b", "\x00", "\x00\x00", "\x00\x00\x00", "\x00\x01", "\x00\xff", "\x00\xff\x00", "\xff", "\xff\x00", "\xff\xff", "\xff\x00\x00", "\x01", "\x02", "\x01\x00", "a\x00", "a\x00\x00", "a\x00\xff", "a\x00b", "a\xff", "a\xff\x00", "\x00a", "\x00\x00a", "\xffa", "über", "a\x01", "\x80", "\x7f", strings.Repeat("\x00", 300), strings.Repeat("\xff", 300), strings.Repeat("long ", 1000)}
	for _, text := range texts {
		list = append(list, words(text))
	}
	return list
}

// rightLists: no parts, each part alone, each pair of some, and lists by chance, the same in each run.
func rightLists() [][]api.Part {
	parts := rightParts()
	lists := [][]api.Part{nil}
	for _, part := range parts {
		lists = append(lists, []api.Part{part})
	}
	some := []api.Part{number(math.MinInt), number(-1), number(0), number(math.MaxInt), words(""), words("a"), words("a\x00"), words("\x00"), words("\xff"), words("\x00\xff")}
	for _, a := range some {
		for _, b := range some {
			lists = append(lists, []api.Part{a, b})
		}
	}
	source := rand.New(rand.NewSource(3))
	for range 200 {
		list := []api.Part{}
		for range 1 + source.Intn(5) {
			list = append(list, parts[source.Intn(len(parts))])
		}
		lists = append(lists, list, list[:len(list)-1])
	}
	return lists
}

// wrongParts: parts of another kind, a number's part with a text, a text's part with a number.
func wrongParts() []api.Part {
	return []api.Part{
		{}, {Int: 1}, {Text: "a"}, {Kind: 3}, {Kind: 3, Int: 1}, {Kind: 3, Text: "a"}, {Kind: -1}, {Kind: math.MinInt}, {Kind: math.MaxInt}, {Kind: 257}, {Kind: 258},
		{Kind: 1, Text: "x"}, {Kind: 1, Text: "\x00"}, {Kind: 1, Int: 5, Text: "x"}, {Kind: 2, Int: 1}, {Kind: 2, Int: -1}, {Kind: 2, Int: math.MinInt, Text: "x"},
	}
}

func keyOf(t *testing.T, parts ...api.Part) string {
	t.Helper()
	key, err := Key(parts...)
	if err != api.OK {
		t.Fatalf("Key of %v: error %d", parts, err)
	}
	return key
}

// wantNoKey: nobody's key, and beside the error there are no parts.
func wantNoKey(t *testing.T, key string) {
	t.Helper()
	if parts, err := Split(key); len(parts) != 0 || err != api.ErrKey {
		t.Errorf("Split of % x: %v, error %d", key, parts, err)
	}
}

// P3.1: the chapter's examples.
func TestExamples(t *testing.T) {
	keys := map[string]api.Part{
		"\x01\x80\x00\x00\x00\x00\x00\x00\x01": number(1),
		"\x01\x7f\xff\xff\xff\xff\xff\xff\xff": number(-1),
		"\x02a\x00\x00":                        words("a"),
		"\x02a\x00\xff\x00\x00":                words("a\x00"),
	}
	for want, part := range keys {
		if key := keyOf(t, part); key != want {
			t.Errorf("Key of %v: % x", part, key)
		}
	}
	wantNoKey(t, "\x02a\x00")
	wantNoKey(t, "\x02a\x00\x01")
	if parts, err := Split(""); len(parts) != 0 || err != api.OK {
		t.Error(parts, err)
	}
	for prefix, want := range map[string]string{"ab": "ac", "a\xff": "b", "\xff": "", "": ""} {
		if end := End(prefix); end != want {
			t.Errorf("End of %q: %q", prefix, end)
		}
	}
}

// P3.1: Int and Text answer the parts one by one, in their row.
func TestParts(t *testing.T) {
	if len(Int()) != 0 || len(Text()) != 0 || len(Int([]int{}...)) != 0 || len(Text([]string{}...)) != 0 {
		t.Error("parts of nothing")
	}
	if got, want := Int(0, -1, math.MinInt, math.MaxInt, 0), []api.Part{number(0), number(-1), number(math.MinInt), number(math.MaxInt), number(0)}; !slices.Equal(got, want) {
		t.Error(got)
	}
	if got, want := Text("b", "", "\x00\xff", "b"), []api.Part{words("b"), words(""), words("\x00\xff"), words("b")}; !slices.Equal(got, want) {
		t.Error(got)
	}
}

// P3.1: a key is its parts' bytes, one behind the other.
func TestKey(t *testing.T) {
	for _, list := range rightLists() {
		want := ""
		for _, part := range list {
			want += bytesOf(part)
		}
		if key := keyOf(t, list...); key != want {
			t.Errorf("Key of %v: % x, not % x", list, key, want)
		}
	}
}

// P3.1: one part that isn't right, wherever it stands, and there is no key; beside the error the answer is empty.
func TestKeyOfWrongParts(t *testing.T) {
	for _, part := range wrongParts() {
		for _, list := range [][]api.Part{{part}, {part, number(1)}, {words("a"), part}, {number(1), part, words("")}} {
			if key, err := Key(list...); key != "" || err != api.ErrKey {
				t.Errorf("Key of %v: % x, error %d", list, key, err)
			}
		}
	}
}

// P3.2: Split answers the parts whose key it is given.
func TestSplitOfKey(t *testing.T) {
	for _, list := range rightLists() {
		parts, err := Split(keyOf(t, list...))
		if !slices.Equal(parts, list) || err != api.OK {
			t.Errorf("Split of the key of %v: %v, error %d", list, parts, err)
		}
	}
}

// P3.1: bytes that are no key.
func TestSplitOfNoKey(t *testing.T) {
	for b := range 256 {
		if first := string([]byte{byte(b)}); b != 1 && b != 2 {
			wantNoKey(t, first)
			wantNoKey(t, first+"\x80\x00\x00\x00\x00\x00\x00\x01")
			wantNoKey(t, first+"a\x00\x00")
		}
	}
	for b := 1; b < 255; b++ {
		wantNoKey(t, "\x02a\x00"+string([]byte{byte(b)}))
		wantNoKey(t, "\x02a\x00"+string([]byte{byte(b)})+"\x00\x00")
		wantNoKey(t, "\x02\x00\xff\x00"+string([]byte{byte(b)})+"\x00\x00")
	}
	for size := range 8 {
		wantNoKey(t, "\x01"+strings.Repeat("\x80", size))
		wantNoKey(t, "\x01"+strings.Repeat("\x00", size))
	}
	for _, key := range []string{"\x02", "\x02a", "\x02\x00", "\x02\x00\xff", "\x02\x00\xff\x00", "\x02\xff", "\x02a\x00\xff", "\x02a\x00\xff\xff", "\x02a\x00\xff\xff\x00", "\x02a\x00\x00\x00", "\x02\x00\x00\xff"} {
		wantNoKey(t, key)
	}
}

// P3.1: of a key that is cut off, or that bytes stand behind, Split answers its parts just if a part ends there.
func TestSplitOfCutKey(t *testing.T) {
	list := []api.Part{words("a\x00b"), number(-7), words(""), number(math.MaxInt), words("\x00\x00")}
	key, ends := "", map[int]int{0: 0}
	for i, part := range list {
		key += bytesOf(part)
		ends[len(key)] = i + 1
	}
	for size := range len(key) + 1 {
		count, whole := ends[size]
		if !whole {
			wantNoKey(t, key[:size])
		} else if parts, err := Split(key[:size]); !slices.Equal(parts, list[:count]) || err != api.OK {
			t.Errorf("%d bytes: %v, error %d", size, parts, err)
		}
	}
	wantNoKey(t, key+"\x00")
	wantNoKey(t, key+"\x01")
	wantNoKey(t, key+"\xff")
}

// P3.1, P3.2: of bytes by chance those are keys that the chapter's words, written as a pattern of their hex digits, say; and Key answers them again.
func TestKeyOfSplit(t *testing.T) {
	isKey := regexp.MustCompile(`^(01(..){8}|02(0[1-9a-f]|[1-9a-f].|00ff)*0000)*$`)
	source := rand.New(rand.NewSource(4))
	letters := []byte{0, 0, 0, 1, 2, 2, 0xff, 0xff, 'a'}
	keys := 0
	for range 100000 {
		text := make([]byte, source.Intn(22))
		for i := range text {
			text[i] = letters[source.Intn(len(letters))]
		}
		parts, err := Split(string(text))
		if want := isKey.MatchString(hex.EncodeToString(text)); want != (err == api.OK) {
			t.Errorf("Split of % x: %v, error %d", text, parts, err)
		}
		if err != api.OK {
			continue
		}
		keys++
		if key := keyOf(t, parts...); key != string(text) {
			t.Errorf("Key of the parts of % x: % x", text, key)
		}
	}
	if keys < 1000 {
		t.Errorf("only %d keys among the bytes", keys)
	}
	for _, list := range rightLists() {
		key := keyOf(t, list...)
		parts, _ := Split(key)
		if again := keyOf(t, parts...); again != key {
			t.Errorf("% x, not % x", again, key)
		}
	}
}

// P3.1, P3.3: Compare is the order of lists, and the keys are ordered as the lists are.
func TestOrder(t *testing.T) {
	lists := rightLists()
	for _, a := range lists {
		for _, b := range lists {
			want := orderOf(a, b)
			if got := Compare(a, b); got != want {
				t.Errorf("Compare of %v and %v: %d", a, b, got)
			}
			if got := strings.Compare(keyOf(t, a...), keyOf(t, b...)); got != want {
				t.Errorf("the keys of %v and %v: %d", a, b, got)
			}
		}
	}
}

// P3.1: lists in their order, each against each: told one by one, as the chapter says it.
func TestOrderOfSome(t *testing.T) {
	rising := [][]api.Part{
		{},
		Int(math.MinInt), Int(-1), Int(-1, math.MinInt), append(Int(-1), words("")), Int(0), Int(1), Int(1, 2), Int(1, 2, 3), Int(1, 3), Int(2), Int(10), Int(math.MaxInt), append(Int(math.MaxInt), words("z")),
		Text(""), append(Text(""), number(5)), Text("", ""), Text("", "a"), Text("\x00"), Text("\x00\x00"), Text("\x00\xff"), Text("\x01"), Text("a"), append(Text("a"), number(0)), Text("a", "z"), Text("a\x00"), Text("a\x00", ""), Text("a\x01"), Text("ab"), Text("b"), Text("\xff"), Text("\xff", "\xff"), Text("\xff\x00"), Text("\xff\xff"),
	}
	for i, a := range rising {
		for j, b := range rising {
			want := 0
			if i < j {
				want = -1
			} else if i > j {
				want = 1
			}
			if got := Compare(a, b); got != want {
				t.Errorf("Compare of %v and %v: %d", a, b, got)
			}
			if got := strings.Compare(keyOf(t, a...), keyOf(t, b...)); got != want {
				t.Errorf("the keys of %v and %v: %d", a, b, got)
			}
		}
	}
}

// P3.1: parts that aren't right are ordered by Kind, then Int, then Text, among each other and beside right ones.
func TestOrderOfWrongParts(t *testing.T) {
	rising := []api.Part{
		{Kind: math.MinInt, Int: 9, Text: "z"}, {Kind: -1}, {Kind: 0, Int: -1, Text: "z"}, {}, {Text: "a"}, {Int: 1}, {Int: 1, Text: "a"},
		{Kind: 1, Int: -1}, {Kind: 1, Int: -1, Text: "z"}, {Kind: 1}, {Kind: 1, Text: "a"}, {Kind: 1, Text: "b"}, {Kind: 1, Int: 1}, {Kind: 1, Int: math.MaxInt, Text: "\xff"},
		{Kind: 2, Int: math.MinInt, Text: "z"}, {Kind: 2, Int: -1, Text: "z"}, {Kind: 2}, {Kind: 2, Text: "z"}, {Kind: 2, Int: 1}, {Kind: 2, Int: 1, Text: "\x00"}, {Kind: 2, Int: 2},
		{Kind: 3, Int: math.MinInt}, {Kind: 3}, {Kind: 3, Text: "a"}, {Kind: math.MaxInt},
	}
	for i, a := range rising {
		for j, b := range rising {
			want := 0
			if i < j {
				want = -1
			} else if i > j {
				want = 1
			}
			for _, pair := range [][2][]api.Part{{{a}, {b}}, {{number(1), a}, {number(1), b}}, {{a, number(i)}, {b, number(i)}}} {
				if got := Compare(pair[0], pair[1]); got != want {
					t.Errorf("Compare of %v and %v: %d", pair[0], pair[1], got)
				}
			}
		}
		if Compare([]api.Part{a}, nil) != 1 || Compare(nil, []api.Part{a}) != -1 || Compare([]api.Part{a}, []api.Part{a, a}) != -1 || Compare([]api.Part{a, a}, []api.Part{a}) != 1 {
			t.Errorf("a beginning isn't ahead: %v", a)
		}
	}
}

// P3.3: the key of a beginning of a list is a beginning of its key.
func TestBeginnings(t *testing.T) {
	for _, list := range rightLists() {
		key := keyOf(t, list...)
		for size := range len(list) + 1 {
			if beginning := keyOf(t, list[:size]...); !strings.HasPrefix(key, beginning) {
				t.Errorf("%v: % x isn't at the beginning of % x", list, beginning, key)
			}
		}
	}
}

// textsOf: all texts of at most so many bytes of those.
func textsOf(letters string, most int) []string {
	all, longest := []string{""}, []string{""}
	for range most {
		var longer []string
		for _, text := range longest {
			for i := range len(letters) {
				longer = append(longer, text+letters[i:i+1])
			}
		}
		all, longest = append(all, longer...), longer
	}
	return all
}

// P3.4: a text begins with the prefix just if it isn't below it, and is below the end, or the end is empty.
func TestEnd(t *testing.T) {
	texts := textsOf("\x00\x01a\xfe\xff", 4)
	for _, prefix := range textsOf("\x00a\xfe\xff", 3) {
		end := End(prefix)
		for _, text := range texts {
			within := text >= prefix && (text < end || end == "")
			if within != strings.HasPrefix(text, prefix) {
				t.Errorf("End of % x: % x, but % x", prefix, end, text)
			}
		}
	}
}

// P3.1: the end is the prefix without its bytes ff at the end, the last one left greater by one.
func TestEndBytes(t *testing.T) {
	for b := range 255 {
		for _, tail := range []string{"", "\xff", "\xff\xff\xff", strings.Repeat("\xff", 300)} {
			for _, head := range []string{"", "a", "\xff", "\x00\xff", "über"} {
				prefix, want := head+string([]byte{byte(b)})+tail, head+string([]byte{byte(b + 1)})
				if end := End(prefix); end != want {
					t.Errorf("End of % x: % x", prefix, end)
				}
			}
		}
	}
	for size := range 300 {
		if end := End(strings.Repeat("\xff", size)); end != "" {
			t.Errorf("End of %d bytes ff: % x", size, end)
		}
	}
	for prefix, want := range map[string]string{"a\xffb\xff": "a\xffc", "\xe2\x82\xac": "\xe2\x82\xad", "\x80\xff": "\x81", "\xef\xbf\xbd": "\xef\xbf\xbe", "\xfe\xfe\xff": "\xfe\xff"} {
		if end := End(prefix); end != want {
			t.Errorf("End of % x: % x", prefix, end)
		}
	}
}

// P3.3, P3.4: the keys that lie between a list's key and its end are those of the lists that begin with it.
func TestRangeOfKeys(t *testing.T) {
	lists := rightLists()
	for _, beginning := range lists[:70] {
		from := keyOf(t, beginning...)
		end := End(from)
		for _, list := range lists {
			key := keyOf(t, list...)
			begins := len(list) >= len(beginning) && slices.Equal(list[:len(beginning)], beginning)
			if within := key >= from && (key < end || end == ""); within != begins {
				t.Errorf("%v within the range of %v: %v", list, beginning, within)
			}
		}
	}
}

// R5: what is handed in stays as it is, its spare memory too; Int and Text answer new memory.
func TestNothingIsChanged(t *testing.T) {
	room := []api.Part{number(1), words("b\x00"), number(3), {Kind: 9}, {Kind: 9}}
	was := slices.Clone(room)
	list := room[:3]
	key := keyOf(t, list...)
	Compare(list, list[:2])
	Key(room...)
	if !slices.Equal(room, was) {
		t.Errorf("%v, not %v", room, was)
	}
	first, _ := Split(key)
	first[0], first[1] = number(9), words("other")
	if second, _ := Split(key); !slices.Equal(second, list) {
		t.Errorf("%v, not %v", second, list)
	}
	numbers, texts := []int{1, 2, 3}, []string{"a", "b", "c"}
	Int(numbers[:2]...)[0].Int = 9
	Text(texts[:2]...)[0].Text = "z"
	if !slices.Equal(numbers, []int{1, 2, 3}) || !slices.Equal(texts, []string{"a", "b", "c"}) {
		t.Error(numbers, texts)
	}
}

// R5: no text that is answered is a piece of what was handed in.
func TestAnswersAreNew(t *testing.T) {
	text := strings.Repeat("long", 20)
	if got := Text(text)[0].Text; unsafe.StringData(got) == unsafe.StringData(text) {
		t.Error("Text answers the text that it was given")
	}
	key := keyOf(t, words(text))
	parts, _ := Split(key)
	got := uintptr(unsafe.Pointer(unsafe.StringData(parts[0].Text)))
	from := uintptr(unsafe.Pointer(unsafe.StringData(key)))
	if got >= from && got < from+uintptr(len(key)) {
		t.Error("Split answers a piece of the key")
	}
}

// R4: the same calls give the same answers, and what went wrong ahead of them leaves no trace.
func TestNothingIsKept(t *testing.T) {
	for _, list := range rightLists() {
		key := keyOf(t, list...)
		Key(append(slices.Clone(list), api.Part{Kind: 7})...)
		Split(key + "\x02rest")
		if again := keyOf(t, list...); again != key {
			t.Errorf("% x, then % x", key, again)
		}
		if parts, err := Split(key); !slices.Equal(parts, list) || err != api.OK {
			t.Errorf("%v, error %d, not %v", parts, err, list)
		}
	}
}

// A long key is read in a time that rises as its length does.
func TestLongKeys(t *testing.T) {
	list := append(Text(strings.Repeat("\x00", 1<<20), strings.Repeat("\xff", 1<<20)), Int(make([]int, 1<<16)...)...)
	list = append(list, Text(make([]string, 1<<16)...)...)
	parts, err := Split(keyOf(t, list...))
	if !slices.Equal(parts, list) || err != api.OK {
		t.Errorf("%d parts, error %d", len(parts), err)
	}
}
