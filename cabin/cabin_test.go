package cabin

import (
	"fmt"
	"math"
	"math/rand"
	"slices"
	"strings"
	"testing"

	"tarmac/api"
)

func at(number int, letter byte) api.Seat { return api.Seat{Number: number, Letter: letter} }

func row(number int, seats string) api.Row { return api.Row{Number: number, Cabin: 1, Seats: seats} }

// chapterMap: M of the chapter's examples.
func chapterMap() []api.Row {
	return []api.Row{
		{Number: 1, Cabin: 1, Seats: "A.C"},
		{Number: 12, Cabin: 2, Zone: 1, Exit: true, Seats: "ABC.dEF"},
	}
}

func wantCheck(t *testing.T, right bool, rows ...api.Row) {
	t.Helper()
	want := api.ErrMap
	if right {
		want = api.OK
	}
	if err := Check(rows...); err != want {
		t.Fatalf("Check of %.1000q: %d, not %d", fmt.Sprint(rows), err, want)
	}
}

func wantSpots(t *testing.T, want []api.Spot, rows ...api.Row) {
	t.Helper()
	if got := Spots(rows...); !slices.Equal(got, want) {
		t.Fatalf("Spots of %.1000q: %v, not %v", fmt.Sprint(rows), got, want)
	}
}

func sameBlock(a, b api.Block) bool {
	return a.Cabin == b.Cabin && a.Row == b.Row && a.Exit == b.Exit && slices.Equal(a.Seats, b.Seats)
}

func wantBlocks(t *testing.T, want []api.Block, rows ...api.Row) {
	t.Helper()
	if got := Blocks(rows...); !slices.EqualFunc(got, want, sameBlock) {
		t.Fatalf("Blocks of %.1000q: %v, not %v", fmt.Sprint(rows), got, want)
	}
}

func wantFind(t *testing.T, want api.Spot, there bool, seat api.Seat, rows ...api.Row) {
	t.Helper()
	if got, ok := Find(seat, rows...); got != want || ok != there {
		t.Fatalf("Find of %v in %.1000q: %v, %t, not %v, %t", seat, fmt.Sprint(rows), got, ok, want, there)
	}
}

func wantNone(t *testing.T, seat api.Seat, rows ...api.Row) {
	t.Helper()
	wantFind(t, api.Spot{}, false, seat, rows...)
}

// wantNear asks both ways.
func wantNear(t *testing.T, want bool, a, b api.Seat, rows ...api.Row) {
	t.Helper()
	if one, other := Near(a, b, rows...), Near(b, a, rows...); one != want || other != want {
		t.Fatalf("Near of %v and %v in %.1000q: %t, and the other way %t, not %t", a, b, fmt.Sprint(rows), one, other, want)
	}
}

// wantNothing: the map isn't right, and nothing is told of it.
func wantNothing(t *testing.T, rows ...api.Row) {
	t.Helper()
	wantCheck(t, false, rows...)
	wantSpots(t, nil, rows...)
	wantBlocks(t, nil, rows...)
	wantNone(t, api.Seat{}, rows...)
	wantNear(t, false, api.Seat{}, api.Seat{}, rows...)
	for _, r := range rows {
		for i := range len(r.Seats) {
			letter := strings.ToUpper(r.Seats[i : i+1])[0]
			wantNone(t, at(r.Number, letter), rows...)
			wantNear(t, false, at(r.Number, letter), at(r.Number, letter+1), rows...)
		}
	}
}

// wantSeats: is a row with these Seats right, by itself, ahead of a right one, and behind it?
func wantSeats(t *testing.T, right bool, seats string) {
	t.Helper()
	wantCheck(t, right, row(7, seats))
	wantCheck(t, right, row(6, "AB"), row(7, seats))
	wantCheck(t, right, row(7, seats), row(8, "AB"))
	if !right {
		wantNothing(t, row(7, seats))
	}
}

// P13.1: the chapter's examples.
func TestExamples(t *testing.T) {
	rows := chapterMap()
	wantCheck(t, true, rows...)
	front := func(letter byte, block int) api.Spot {
		return api.Spot{Seat: at(1, letter), Cabin: 1, Block: block}
	}
	exit := func(letter byte, block int, blocked bool) api.Spot {
		return api.Spot{Seat: at(12, letter), Cabin: 2, Zone: 1, Block: block, Exit: true, Blocked: blocked}
	}
	spots := []api.Spot{front('A', 0), front('C', 1),
		exit('A', 2, false), exit('B', 2, false), exit('C', 2, false),
		exit('D', 3, true), exit('E', 3, false), exit('F', 3, false)}
	wantSpots(t, spots, rows...)
	for _, spot := range spots {
		wantFind(t, spot, true, spot.Seat, rows...)
	}
	wantBlocks(t, []api.Block{
		{Cabin: 1, Row: 1, Seats: []api.Seat{at(1, 'A')}},
		{Cabin: 1, Row: 1, Seats: []api.Seat{at(1, 'C')}},
		{Cabin: 2, Row: 12, Exit: true, Seats: []api.Seat{at(12, 'A'), at(12, 'B'), at(12, 'C')}},
		{Cabin: 2, Row: 12, Exit: true, Seats: []api.Seat{at(12, 'E'), at(12, 'F')}},
	}, rows...)
	wantNear(t, true, at(12, 'A'), at(12, 'B'), rows...)
	wantNear(t, true, at(12, 'D'), at(12, 'E'), rows...)
	wantNear(t, false, at(12, 'C'), at(12, 'D'), rows...)
	wantNear(t, false, at(12, 'A'), at(12, 'C'), rows...)
	for _, seats := range []string{"A..B", ".A", "BA", "Aa", "", "ABCDEFG"} {
		wantNothing(t, row(1, seats))
	}
	wantNothing(t, row(1, "A"), row(1, "A"))
}

// P13.1: a row's numbers at their edges and beyond.
func TestNumbersOfRows(t *testing.T) {
	for _, number := range []int{1, 2, 50, 98, 99} {
		wantCheck(t, true, row(number, "A"))
	}
	for _, number := range []int{0, -1, -99, 100, 101, 1000, 256 + 1, math.MinInt, math.MaxInt} {
		wantNothing(t, row(number, "A"))
	}
	r := row(1, "AB")
	for cabin := -2; cabin <= 6; cabin++ {
		r.Cabin = cabin
		wantCheck(t, 1 <= cabin && cabin <= 3, r)
	}
	for _, cabin := range []int{0, 4, 257, math.MinInt, math.MaxInt} {
		r.Cabin = cabin
		wantNothing(t, r)
	}
	r.Cabin = 3
	for zone := -3; zone <= 7; zone++ {
		r.Zone = zone
		wantCheck(t, 0 <= zone && zone <= 3, r)
	}
	for _, zone := range []int{-1, 4, 256, math.MinInt, math.MaxInt} {
		r.Zone = zone
		wantNothing(t, r)
	}
}

// P13.1: which Seats are right.
func TestSeatsOfRows(t *testing.T) {
	for _, seats := range []string{"A", "Z", "a", "z", "M", "AZ", "az", "Az", "aZ", "aB", "Ab", "ABCDEF", "abcdef", "UVWXYZ", "A.B.C.D.E.F", "a.Z", "A.BCDEF", "ABCDE.f"} {
		wantSeats(t, true, seats)
	}
	wrong := []string{
		"", ".", "..", "......",
		".A", "A.", "..A", "A..", ".A.", "A..B", "A...B", "A.B.", ".A.B", "A.B..C",
		"ABCDEFG", "abcdefg", "A.B.C.D.E.F.G", "ABC.DEFG", greats, smalls, strings.Repeat("A", 1000), strings.Repeat("A.", 1000) + "B",
		"BA", "ba", "Ba", "bA", "B.A", "CAB", "ACB", "AC.B", "ZA", "zA", "Za",
		"AA", "aa", "Aa", "aA", "A.A", "A.a", "a.A", "ABB", "ABb", "AbB", "A.B.b",
	}
	for _, seats := range wrong {
		wantSeats(t, false, seats)
	}
	for sign := range 256 {
		text := string([]byte{byte(sign)})
		isLetter := strings.Contains(greats+smalls, text)
		wantSeats(t, isLetter, text)
		wantSeats(t, isLetter && !strings.Contains("Aa", text), "A"+text)
		wantSeats(t, isLetter && !strings.Contains("Zz", text), text+"Z")
		wantSeats(t, sign == '.' || isLetter && !strings.Contains("AaZz", text), "A"+text+"Z")
	}
	for _, seats := range []string{"A@", "@A", "A[", "[", "A`", "a`b", "a{", "A/B", "A-B", "A B", " A", "A\n", "Ä", "AÄB", "A\u212a", "A\u017f", "日", "A\x00B", "A\xffB", "A\x80", "A,B", "A:B", "1"} {
		wantSeats(t, false, seats)
	}
}

// P13.1: all short Seats over letters, dots and what stands beside the letters, against the paper.
func TestAllShortSeats(t *testing.T) {
	signs := "AaBbZz.@[`{\xc1"
	right, wrong := 0, 0
	texts := []string{""}
	for length := 0; length <= 4; length++ {
		var longer []string
		for _, text := range texts {
			want := paperSeats(text)
			wantCheck(t, want, row(99, text))
			if want {
				right++
			} else {
				wrong++
			}
			for i := range len(signs) {
				longer = append(longer, text+signs[i:i+1])
			}
		}
		texts = longer
	}
	if right < 50 || wrong < 20000 {
		t.Fatalf("%d right ones, %d wrong ones: the texts say too little", right, wrong)
	}
}

// P13.1: how many rows there may be, and that their numbers rise strictly.
func TestRowsOfMaps(t *testing.T) {
	var rows []api.Row
	wantNothing(t)
	wantNothing(t, rows...)
	wantNothing(t, []api.Row{}...)
	for n := 1; n <= 9; n++ {
		rows = append(rows, row(n*11, "AB.C"))
		wantCheck(t, n <= 6, rows...)
	}
	for n := 7; n <= 9; n++ {
		wantNothing(t, rows[:n]...)
	}
	rows = rows[:6]
	for i := range rows {
		for j := range rows {
			changed := slices.Clone(rows)
			changed[i], changed[j] = changed[j], changed[i]
			wantCheck(t, i == j, changed...)
			changed = slices.Clone(rows)
			changed[i].Number = changed[j].Number
			wantCheck(t, i == j, changed...)
		}
	}
	wantNothing(t, row(2, "A"), row(1, "A"))
	wantNothing(t, row(1, "A"), row(3, "A"), row(2, "A"))
	wantNothing(t, row(99, "A"), row(100, "A"))
	wantNothing(t, row(0, "A"), row(1, "A"))
	wantCheck(t, true, row(1, "A"), row(2, "A"), row(99, "A"))
}

// P13.1: one wrong row makes a map wrong, wherever it stands.
func TestOneWrongRow(t *testing.T) {
	wrong := []api.Row{
		{Number: 0, Cabin: 1, Seats: "A"}, {Number: 100, Cabin: 1, Seats: "A"},
		{Number: 1, Cabin: 0, Seats: "A"}, {Number: 1, Cabin: 4, Seats: "A"},
		{Number: 1, Cabin: 1, Zone: -1, Seats: "A"}, {Number: 1, Cabin: 1, Zone: 4, Seats: "A"},
		{Number: 1, Cabin: 1, Seats: ""}, {Number: 1, Cabin: 1, Seats: "A."}, {Number: 1, Cabin: 1, Seats: "Aa"}, {},
	}
	for _, r := range wrong {
		for i := range 6 {
			var rows []api.Row
			for n := range 6 {
				rows = append(rows, api.Row{Number: 10 * (n + 1), Cabin: 1 + n%3, Zone: n % 4, Exit: n%2 == 0, Seats: "AbC.D"})
			}
			wantCheck(t, true, rows...)
			if 0 < r.Number && r.Number < 100 {
				r.Number = rows[i].Number
			}
			rows[i] = r
			wantNothing(t, rows...)
		}
	}
}

// P13.1: a block all of whose seats are blocked is a block, and has no seat.
func TestBlockedBlocks(t *testing.T) {
	rows := []api.Row{{Number: 5, Cabin: 3, Zone: 2, Seats: "a.B.cd"}, {Number: 6, Cabin: 1, Exit: true, Seats: "k"}}
	wantBlocks(t, []api.Block{
		{Cabin: 3, Row: 5}, {Cabin: 3, Row: 5, Seats: []api.Seat{at(5, 'B')}}, {Cabin: 3, Row: 5}, {Cabin: 1, Row: 6, Exit: true},
	}, rows...)
	wantFind(t, api.Spot{Seat: at(5, 'D'), Cabin: 3, Zone: 2, Block: 2, Blocked: true}, true, at(5, 'D'), rows...)
	wantFind(t, api.Spot{Seat: at(6, 'K'), Cabin: 1, Block: 3, Exit: true, Blocked: true}, true, at(6, 'K'), rows...)
	wantNear(t, true, at(5, 'C'), at(5, 'D'), rows...)
	wantNear(t, false, at(5, 'A'), at(5, 'B'), rows...)
}

// P13.1: seats that no map has, and those that this one hasn't.
func TestSeatsThatArentThere(t *testing.T) {
	rows := chapterMap()
	there := map[api.Seat]int{}
	for _, spot := range Spots(rows...) {
		there[spot.Seat]++
	}
	found := 0
	for number := -1; number <= 101; number++ {
		for letter := range 256 {
			seat := at(number, byte(letter))
			_, ok := Find(seat, rows...)
			if ok != (there[seat] == 1) {
				t.Fatalf("Find of %v: %t", seat, ok)
			}
			if !ok {
				wantNone(t, seat, rows...)
				wantNear(t, false, seat, at(12, 'B'), rows...)
				wantNear(t, false, seat, seat, rows...)
				continue
			}
			found++
		}
	}
	if found != 8 {
		t.Fatalf("%d seats were found", found)
	}
	for _, seat := range []api.Seat{at(math.MinInt, 'A'), at(math.MaxInt, 'A'), at(1+256, 'A'), at(12, '.'), at(12, 'd'), at(12, 'a'), at(12, 0), at(0, 'A'), at(2, 'A')} {
		wantNone(t, seat, rows...)
	}
}

// P13.1, P13.3: who sits beside whom.
func TestNear(t *testing.T) {
	rows := []api.Row{row(3, "AcF.GZ"), row(4, "A.c.FG"), row(5, "bC")}
	near := [][2]api.Seat{
		{at(3, 'A'), at(3, 'C')}, {at(3, 'C'), at(3, 'F')}, {at(3, 'G'), at(3, 'Z')},
		{at(4, 'F'), at(4, 'G')}, {at(5, 'B'), at(5, 'C')},
	}
	for _, a := range Spots(rows...) {
		for _, b := range Spots(rows...) {
			want := slices.Contains(near, [2]api.Seat{a.Seat, b.Seat}) || slices.Contains(near, [2]api.Seat{b.Seat, a.Seat})
			wantNear(t, want, a.Seat, b.Seat, rows...)
		}
	}
	for _, far := range [][2]api.Seat{
		{at(3, 'A'), at(3, 'A')}, {at(3, 'A'), at(3, 'B')}, {at(3, 'B'), at(3, 'C')}, {at(3, 'B'), at(3, 'B')},
		{at(3, 'F'), at(3, 'G')}, {at(3, 'A'), at(3, 'F')}, {at(3, 'A'), at(4, 'A')}, {at(3, 'C'), at(4, 'C')},
		{at(3, 'Z'), at(4, 'A')}, {at(4, 'G'), at(5, 'B')}, {at(4, 'A'), at(3, 'C')}, {at(5, 'b'), at(5, 'C')},
		{at(3, '.'), at(3, 'G')}, {at(6, 'A'), at(6, 'B')}, {api.Seat{}, api.Seat{}}, {api.Seat{}, at(3, 'A')},
	} {
		wantNear(t, false, far[0], far[1], rows...)
	}
}

// P13.1: drawn rows, right ones and wrong ones, against the paper.
func TestPaper(t *testing.T) {
	draw := rand.New(rand.NewSource(1301))
	right, wrong, near := 0, 0, 0
	for range 6000 {
		rows := drawnRows(draw)
		want := paperCheck(rows...)
		wantCheck(t, want, rows...)
		wantSpots(t, paperSpots(rows...), rows...)
		wantBlocks(t, paperBlocks(rows...), rows...)
		if !want {
			wrong++
			wantNothing(t, rows...)
			continue
		}
		right++
		for range 10 {
			a, b := drawnSeat(draw, rows), drawnSeat(draw, rows)
			spot, ok := paperFind(a, rows...)
			wantFind(t, spot, ok, a, rows...)
			beside := paperNear(a, b, rows...)
			wantNear(t, beside, a, b, rows...)
			if beside {
				near++
			}
		}
	}
	if right < 1500 || wrong < 1500 || near < 500 {
		t.Fatalf("%d right maps, %d wrong ones, %d near seats: the maps say too little", right, wrong, near)
	}
}

// drawnSeat: a seat of one of the rows, or one beside it.
func drawnSeat(draw *rand.Rand, rows []api.Row) api.Seat {
	r := rows[draw.Intn(min(len(rows), 2))]
	letter := strings.ToUpper(r.Seats)[draw.Intn(len(r.Seats))]
	switch draw.Intn(12) {
	case 0:
		return at(r.Number+draw.Intn(3)-1, letter)
	case 1:
		return at(r.Number, letter+byte(draw.Intn(3))-1)
	case 2:
		return at(r.Number, r.Seats[draw.Intn(len(r.Seats))])
	}
	return at(r.Number, letter)
}

// P13.2: spots, their seats and their blocks fit one another.
func TestSpotsAndBlocks(t *testing.T) {
	draw := rand.New(rand.NewSource(1302))
	for range 2000 {
		rows := drawnMap(draw)
		spots, blocks := Spots(rows...), Blocks(rows...)
		members := make([][]api.Seat, len(blocks))
		block := 0
		for i, spot := range spots {
			wantFind(t, spot, true, spot.Seat, rows...)
			if spot.Block != block && spot.Block != block+1 || i == 0 && spot.Block != 0 {
				t.Fatalf("%v: a spot of block %d behind one of block %d", rows, spot.Block, block)
			}
			block = spot.Block
			if blocks[block].Cabin != spot.Cabin || blocks[block].Row != spot.Seat.Number || blocks[block].Exit != spot.Exit {
				t.Fatalf("%v: %v in %v", rows, spot, blocks[block])
			}
			if !spot.Blocked {
				members[block] = append(members[block], spot.Seat)
			}
			if i > 0 && !ahead(spots[i-1].Seat, spot.Seat) {
				t.Fatalf("%v: %v behind %v", rows, spot, spots[i-1])
			}
		}
		if block != len(blocks)-1 {
			t.Fatalf("%v: %d blocks, and the last spot is of block %d", rows, len(blocks), block)
		}
		for i, b := range blocks {
			if !slices.Equal(b.Seats, members[i]) {
				t.Fatalf("%v: block %d has %v, not %v", rows, i, b.Seats, members[i])
			}
		}
	}
}

// ahead: does a stand ahead of b in the seats' order?
func ahead(a, b api.Seat) bool {
	return a.Number < b.Number || a.Number == b.Number && a.Letter < b.Letter
}

// P13.3: near both ways alike, and never more than two.
func TestFewAreNear(t *testing.T) {
	draw := rand.New(rand.NewSource(1303))
	came := map[int]int{}
	for range 300 {
		rows := drawnMap(draw)
		spots := Spots(rows...)
		for _, a := range spots {
			count := 0
			for _, b := range spots {
				one := Near(a.Seat, b.Seat, rows...)
				wantNear(t, one, a.Seat, b.Seat, rows...)
				if !one {
					continue
				}
				count++
				if a.Block != b.Block || a.Seat == b.Seat {
					t.Fatalf("%v: %v and %v are near", rows, a, b)
				}
			}
			came[count]++
		}
	}
	if len(came) != 3 || came[0] < 100 || came[1] < 100 || came[2] < 100 {
		t.Fatalf("so many seats have so many near ones: %v", came)
	}
}

// R5: what is handed in stays as it was, its spare memory too, and what is answered is new memory.
func TestNothingIsShared(t *testing.T) {
	draw := rand.New(rand.NewSource(1304))
	for range 500 {
		rows := drawnRows(draw)
		whole := append(slices.Clone(rows), row(50, "spare"), row(51, "memory"))
		before := slices.Clone(whole)
		given := whole[:len(rows)]
		Check(given...)
		spots, blocks := Spots(given...), Blocks(given...)
		seat := drawnSeatOf(draw, spots)
		Find(seat, given...)
		Near(seat, seat, given...)
		if !slices.Equal(whole, before) {
			t.Fatalf("%v was changed to %v", before, whole)
		}
		spill(spots, blocks)
		wantSpots(t, paperSpots(rows...), given...)
		wantBlocks(t, paperBlocks(rows...), given...)
	}
}

func drawnSeatOf(draw *rand.Rand, spots []api.Spot) api.Seat {
	if len(spots) == 0 {
		return api.Seat{}
	}
	return spots[draw.Intn(len(spots))].Seat
}

// spill writes over the answers, and into their spare memory.
func spill(spots []api.Spot, blocks []api.Block) {
	spots = spots[:cap(spots)]
	for i := range spots {
		spots[i] = api.Spot{Seat: at(77, 'Q')}
	}
	for _, block := range blocks {
		seats := block.Seats[:cap(block.Seats)]
		for i := range seats {
			seats[i] = at(77, 'Q')
		}
	}
	blocks = blocks[:cap(blocks)]
	for i := range blocks {
		blocks[i] = api.Block{Cabin: 77}
	}
}

// R5: no two blocks share their seats' memory, their spare memory neither.
func TestBlocksShareNothing(t *testing.T) {
	rows := []api.Row{row(1, "ABC.D.EF"), row(2, "A.BcD.e")}
	count := len(Blocks(rows...))
	for i := range count {
		blocks := Blocks(rows...)
		spill(nil, blocks[i:i+1:i+1])
		want := paperBlocks(rows...)
		blocks[i], want[i] = api.Block{}, api.Block{}
		if !slices.EqualFunc(blocks, want, sameBlock) {
			t.Fatalf("with the %d. written over: %v, not %v", i, blocks, want)
		}
		blocks = Blocks(rows...)
		blocks[i].Seats = append(blocks[i].Seats, at(77, 'Q'), at(78, 'Q'))
		want = paperBlocks(rows...)
		blocks[i], want[i] = api.Block{}, api.Block{}
		if !slices.EqualFunc(blocks, want, sameBlock) {
			t.Fatalf("with more behind the %d.: %v, not %v", i, blocks, want)
		}
	}
}

// R1: whatever rows and seats hold, there is an answer.
func TestWhateverIsAsked(t *testing.T) {
	draw := rand.New(rand.NewSource(1306))
	numbers := []int{math.MinInt, -1, 0, 1, 2, 3, 98, 99, 100, math.MaxInt}
	number := func() int { return numbers[draw.Intn(len(numbers))] }
	for range 20000 {
		var rows []api.Row
		for range draw.Intn(9) {
			seats := make([]byte, draw.Intn(9))
			for i := range seats {
				seats[i] = byte(draw.Intn(256))
			}
			rows = append(rows, api.Row{Number: number(), Cabin: number(), Zone: number(), Exit: draw.Intn(2) == 0, Seats: string(seats)})
		}
		wantCheck(t, paperCheck(rows...), rows...)
		wantSpots(t, paperSpots(rows...), rows...)
		wantBlocks(t, paperBlocks(rows...), rows...)
		a, b := at(number(), byte(draw.Intn(256))), at(number(), byte(draw.Intn(256)))
		spot, ok := paperFind(a, rows...)
		wantFind(t, spot, ok, a, rows...)
		wantNear(t, paperNear(a, b, rows...), a, b, rows...)
	}
}
