package fit

import (
	"math"
	"math/rand"
	"slices"
	"testing"

	"tarmac/api"
	"tarmac/cabin"
)

func at(number int, letter byte) api.Seat { return api.Seat{Number: number, Letter: letter} }

func sits(w api.Who, number int, letter byte) api.Sitter {
	return api.Sitter{Who: w, Seat: at(number, letter)}
}

func plain(cabin int) api.Who   { return api.Who{Cabin: cabin} }
func helper(cabin int) api.Who  { return api.Who{Cabin: cabin, Fit: true} }
func carrier(cabin int) api.Who { return api.Who{Cabin: cabin, Infant: true} }

// chapterMap: M of the chapter's examples.
func chapterMap() []api.Row {
	return []api.Row{
		{Number: 1, Cabin: 1, Seats: "A.C"},
		{Number: 12, Cabin: 2, Zone: 1, Exit: true, Seats: "ABC.dEF"},
	}
}

// wideMap: three rows with what stands in a row: an aisle, a blocked seat, an exit.
func wideMap() []api.Row {
	return []api.Row{
		{Number: 3, Cabin: 1, Seats: "ABC.DEF"},
		{Number: 4, Cabin: 1, Zone: 3, Exit: true, Seats: "AB.cD"},
		{Number: 9, Cabin: 2, Zone: 2, Seats: "AbC"},
	}
}

// wrongMaps: one of each kind of wrong map.
func wrongMaps() [][]api.Row {
	return [][]api.Row{
		nil, {},
		{{}},
		{{Number: 0, Cabin: 1, Seats: "A"}}, {{Number: 100, Cabin: 1, Seats: "A"}},
		{{Number: 1, Cabin: 0, Seats: "A"}}, {{Number: 1, Cabin: 4, Seats: "A"}},
		{{Number: 1, Cabin: 1, Zone: -1, Seats: "A"}}, {{Number: 1, Cabin: 1, Zone: 4, Seats: "A"}},
		{{Number: 1, Cabin: 1, Seats: ""}}, {{Number: 1, Cabin: 1, Seats: "A..B"}}, {{Number: 1, Cabin: 1, Seats: "BA"}},
		{{Number: 1, Cabin: 1, Seats: "Aa"}}, {{Number: 1, Cabin: 1, Seats: "ABCDEFG"}}, {{Number: 1, Cabin: 1, Seats: "\xff"}},
		append(chapterMap(), api.Row{Number: 12, Cabin: 1, Seats: "A"}),
		append(chapterMap(), api.Row{Number: 2, Cabin: 1, Seats: "A"}),
		append(chapterMap(), api.Row{Number: 13}),
		slices.Repeat(chapterMap(), 40),
	}
}

func wantOne(t *testing.T, want api.Errno, w api.Who, s api.Spot) {
	t.Helper()
	if err := One(w, s); err != want {
		t.Fatalf("One of %v at %v: %d, not %d", w, s, err, want)
	}
}

func wantAll(t *testing.T, want api.Errno, rows []api.Row, sitters ...api.Sitter) {
	t.Helper()
	if err := All(rows, sitters...); err != want {
		t.Fatalf("All of %.2000v in %v: %d, not %d", sitters, rows, err, want)
	}
}

func wantFree(t *testing.T, want []api.Seat, rows []api.Row, w api.Who, sitters ...api.Sitter) {
	t.Helper()
	if free := Free(rows, w, sitters...); !slices.Equal(free, want) {
		t.Fatalf("Free of %v beside %.2000v in %v: %v, not %v", w, sitters, rows, free, want)
	}
}

// seats: the seats of a row with these letters.
func seats(number int, letters string) []api.Seat {
	var list []api.Seat
	for i := range len(letters) {
		list = append(list, at(number, letters[i]))
	}
	return list
}

// P14.1: the chapter's examples.
func TestExamples(t *testing.T) {
	rows := chapterMap()
	spot := func(seat api.Seat) api.Spot {
		s, ok := cabin.Find(seat, rows...)
		if !ok {
			t.Fatal(seat)
		}
		return s
	}
	wantOne(t, api.ErrUnfit, plain(2), spot(at(12, 'A')))
	wantOne(t, api.OK, helper(2), spot(at(12, 'A')))
	wantOne(t, api.ErrUnfit, api.Who{Cabin: 2, Fit: true, Infant: true}, spot(at(12, 'A')))
	for _, w := range []api.Who{plain(2), helper(2), carrier(2)} {
		wantOne(t, api.ErrBlocked, w, spot(at(12, 'D')))
		wantOne(t, api.ErrUnfit, w, spot(at(1, 'A')))
	}
	wantAll(t, api.OK, rows, sits(carrier(1), 1, 'A'), sits(carrier(1), 1, 'C'))
	wantAll(t, api.ErrTaken, rows, sits(plain(1), 1, 'A'), sits(plain(1), 1, 'A'))
	wantFree(t, seats(1, "C"), rows, plain(1), sits(plain(1), 1, 'A'))
}

// P14.1: One, for all that counts of the person and of the spot, and nothing else counts.
func TestOne(t *testing.T) {
	cabins := []int{1, 2, 3, 0, 4, -1, 257, math.MinInt, math.MaxInt}
	bools := []bool{false, true}
	came := map[api.Errno]int{}
	for _, fit := range bools {
		for _, infant := range bools {
			for _, exit := range bools {
				for _, blocked := range bools {
					for _, c := range cabins {
						for _, d := range cabins {
							w, s := api.Who{Cabin: c, Fit: fit, Infant: infant}, api.Spot{Cabin: d, Exit: exit, Blocked: blocked}
							want := paperOne(w, s)
							wantOne(t, want, w, s)
							s.Seat, s.Zone, s.Block = at(17, 'K'), 2, 5
							wantOne(t, want, w, s)
							came[want]++
						}
					}
				}
			}
		}
	}
	if len(came) != 3 || came[api.OK] < 20 {
		t.Fatal(came)
	}
}

// P14.1: One, by words that aren't the paper's.
func TestOneByHand(t *testing.T) {
	for _, w := range []api.Who{plain(1), helper(1), carrier(1), {Cabin: 1, Fit: true, Infant: true}} {
		wantOne(t, api.OK, w, api.Spot{Cabin: 1})
		wantOne(t, api.ErrUnfit, w, api.Spot{Cabin: 2})
		wantOne(t, api.ErrBlocked, w, api.Spot{Cabin: 1, Blocked: true})
		wantOne(t, api.ErrBlocked, w, api.Spot{Cabin: 2, Exit: true, Blocked: true})
		wantOne(t, api.ErrUnfit, w, api.Spot{Cabin: 2, Exit: true})
	}
	exit := api.Spot{Cabin: 1, Exit: true}
	wantOne(t, api.ErrUnfit, plain(1), exit)
	wantOne(t, api.OK, helper(1), exit)
	wantOne(t, api.ErrUnfit, carrier(1), exit)
	wantOne(t, api.ErrUnfit, api.Who{Cabin: 1, Fit: true, Infant: true}, exit)
}

// P14.1: of a cabin that no row has nobody fits.
func TestCabinsThatNoRowHas(t *testing.T) {
	rows := []api.Row{{Number: 1, Cabin: 1, Seats: "Ab"}, {Number: 2, Cabin: 2, Seats: "Ab"}, {Number: 3, Cabin: 3, Exit: true, Seats: "Ab"}}
	for _, c := range []int{0, 4, -1, -2, -3, 5, 257, math.MinInt, math.MaxInt} {
		for _, spot := range cabin.Spots(rows...) {
			want := api.ErrUnfit
			if spot.Blocked {
				want = api.ErrBlocked
			}
			wantOne(t, want, helper(c), spot)
			wantAll(t, want, rows, api.Sitter{Who: helper(c), Seat: spot.Seat})
		}
		wantFree(t, nil, rows, helper(c))
	}
	for c := 1; c <= 3; c++ {
		wantFree(t, []api.Seat{at(c, 'A')}, rows, helper(c))
	}
	// A right cabin, and no row of this map has it.
	wantFree(t, nil, rows[:2], helper(3))
	wantAll(t, api.ErrUnfit, rows[:2], sits(helper(3), 1, 'A'))
}

// P14.1: a map that isn't right, whoever sits there.
func TestWrongMaps(t *testing.T) {
	for _, rows := range wrongMaps() {
		if cabin.Check(rows...) != api.ErrMap {
			t.Fatal(rows)
		}
		wantAll(t, api.ErrMap, rows)
		wantAll(t, api.ErrMap, rows, []api.Sitter{}...)
		wantAll(t, api.ErrMap, rows, sits(plain(1), 1, 'A'))
		wantAll(t, api.ErrMap, rows, sits(plain(1), 7, '.'), api.Sitter{})
		wantAll(t, api.ErrMap, rows, sits(carrier(1), 1, 'A'), sits(carrier(1), 1, 'A'))
		wantFree(t, nil, rows, plain(1))
		wantFree(t, nil, rows, plain(1), sits(plain(1), 1, 'A'))
		wantFree(t, nil, rows, api.Who{}, api.Sitter{})
	}
}

// P14.1, R3: nobody is well seated on a right map.
func TestNobody(t *testing.T) {
	for _, rows := range [][]api.Row{chapterMap(), wideMap(), {{Number: 99, Cabin: 3, Seats: "z"}}} {
		wantAll(t, api.OK, rows)
		wantAll(t, api.OK, rows, []api.Sitter{}...)
		for _, w := range []api.Who{plain(1), helper(1), carrier(2), {}} {
			wantFree(t, Free(rows, w, []api.Sitter{}...), rows, w)
		}
	}
}

// P14.1: ErrSeat, for each seat that the map hasn't.
func TestSeatsThatArentThere(t *testing.T) {
	rows := wideMap()
	there := 0
	for number := -1; number <= 101; number++ {
		for letter := range 256 {
			_, ok := cabin.Find(at(number, byte(letter)), rows...)
			if ok {
				there++
				continue
			}
			wantAll(t, api.ErrSeat, rows, sits(plain(1), number, byte(letter)))
		}
	}
	if there != 13 {
		t.Fatalf("%d seats are there", there)
	}
	for _, s := range []api.Sitter{
		{}, sits(plain(1), 5, 'A'), sits(plain(1), 3, 'G'), sits(plain(1), 3, 'a'), sits(plain(1), 3, '.'),
		sits(plain(1), 4, 'c'), sits(plain(1), 0, 'A'), sits(plain(1), 3, 0), sits(plain(1), -3, 'A'), sits(plain(1), 3+256, 'A'),
		sits(plain(1), math.MinInt, 'A'), sits(plain(1), math.MaxInt, 'A'), sits(plain(7), 5, 'A'),
	} {
		wantAll(t, api.ErrSeat, rows, s)
		wantAll(t, api.ErrSeat, rows, sits(plain(1), 3, 'A'), s)
		wantAll(t, api.ErrSeat, rows, s, s)
		wantFree(t, nil, rows, plain(1), s)
	}
}

// P14.1: ErrBlocked and ErrUnfit, of one who sits alone and behind others.
func TestSeatsThatDontFit(t *testing.T) {
	rows := wideMap()
	for _, c := range []struct {
		want   api.Errno
		sitter api.Sitter
	}{
		{api.ErrBlocked, sits(helper(1), 4, 'C')},
		{api.ErrBlocked, sits(plain(1), 4, 'C')}, // an exit row
		{api.ErrBlocked, sits(plain(2), 4, 'C')},
		{api.ErrBlocked, sits(plain(2), 9, 'B')},
		{api.ErrBlocked, sits(carrier(0), 9, 'B')},
		{api.ErrUnfit, sits(plain(2), 3, 'F')},
		{api.ErrUnfit, sits(helper(1), 9, 'A')},
		{api.ErrUnfit, sits(plain(1), 4, 'A')},
		{api.ErrUnfit, sits(carrier(1), 4, 'D')},
		{api.ErrUnfit, sits(api.Who{Cabin: 1, Fit: true, Infant: true}, 4, 'D')},
		{api.ErrUnfit, sits(helper(2), 4, 'D')},
		{api.ErrUnfit, sits(plain(0), 3, 'A')},
		{api.OK, sits(helper(1), 4, 'D')},
		{api.OK, sits(helper(1), 3, 'F')},
		{api.OK, sits(api.Who{Cabin: 1, Fit: true, Infant: true}, 3, 'F')},
		{api.OK, sits(plain(2), 9, 'C')},
	} {
		wantAll(t, c.want, rows, c.sitter)
		wantAll(t, c.want, rows, sits(plain(1), 3, 'E'), sits(carrier(1), 3, 'A'), sits(helper(1), 4, 'A'), c.sitter)
		wantAll(t, c.want, rows, c.sitter, sits(plain(1), 3, 'E'))
		if c.want != api.OK {
			wantFree(t, nil, rows, plain(2), c.sitter)
		}
	}
}

// P14.1: ErrTaken, wherever in the list the two stand.
func TestTaken(t *testing.T) {
	rows := wideMap()
	others := []api.Sitter{
		sits(plain(1), 3, 'A'), sits(carrier(1), 3, 'B'), sits(plain(1), 3, 'E'), sits(helper(1), 4, 'A'),
		sits(helper(1), 4, 'D'), sits(plain(2), 9, 'A'), sits(helper(2), 9, 'C'),
	}
	wantAll(t, api.OK, rows, others...)
	for i := range len(others) + 1 {
		for j := range len(others) + 2 {
			two := sits(helper(1), 4, 'B')
			list := slices.Insert(slices.Clone(others), i, two)
			wantAll(t, api.OK, rows, list...)
			wantAll(t, api.ErrTaken, rows, slices.Insert(list, j, two)...)
		}
	}
	for _, s := range others {
		wantAll(t, api.ErrTaken, rows, append(slices.Clone(others), s)...)
	}
	// Whoever comes second, it is the seat that counts.
	wantAll(t, api.ErrTaken, rows, sits(plain(1), 3, 'A'), sits(carrier(1), 3, 'A'))
	wantAll(t, api.ErrTaken, rows, sits(carrier(1), 3, 'A'), sits(helper(1), 3, 'A'))
	wantAll(t, api.ErrTaken, rows, slices.Repeat([]api.Sitter{sits(plain(1), 3, 'A')}, 100000)...)
	// One letter in two rows, and one row's two letters.
	wantAll(t, api.OK, rows, sits(helper(1), 3, 'A'), sits(helper(1), 4, 'A'), sits(helper(1), 3, 'B'))
}

// P14.1: ErrQuota: one infant a block.
func TestInfants(t *testing.T) {
	rows := wideMap()
	wantAll(t, api.ErrQuota, rows, sits(carrier(1), 3, 'A'), sits(carrier(1), 3, 'B'))
	wantAll(t, api.ErrQuota, rows, sits(carrier(1), 3, 'C'), sits(carrier(1), 3, 'A'))
	wantAll(t, api.ErrQuota, rows, sits(carrier(2), 9, 'A'), sits(carrier(2), 9, 'C')) // the blocked seat between them is no aisle
	wantAll(t, api.OK, rows, sits(carrier(1), 3, 'C'), sits(carrier(1), 3, 'D'))
	wantAll(t, api.OK, rows, sits(carrier(1), 3, 'A'), sits(carrier(1), 3, 'F'), sits(carrier(2), 9, 'A'))
	wantAll(t, api.OK, rows, sits(carrier(1), 3, 'A'), sits(plain(1), 3, 'B'), sits(helper(1), 3, 'C'))
	wantAll(t, api.OK, rows, sits(plain(1), 3, 'B'), sits(helper(1), 3, 'C'), sits(carrier(1), 3, 'A'))
	wantAll(t, api.ErrQuota, rows, sits(carrier(1), 3, 'A'), sits(plain(1), 3, 'B'), sits(carrier(1), 3, 'C'))
	wantAll(t, api.ErrQuota, rows, sits(plain(1), 3, 'B'), sits(carrier(1), 3, 'A'), sits(carrier(1), 3, 'C'))
	wantAll(t, api.ErrQuota, rows, sits(carrier(1), 3, 'A'), sits(carrier(1), 3, 'D'), sits(carrier(2), 9, 'A'), sits(plain(1), 3, 'E'), sits(carrier(1), 3, 'F'))
	// Two rows of one number of blocks: each block counts by itself.
	twins := []api.Row{{Number: 1, Cabin: 1, Seats: "AB.CD"}, {Number: 2, Cabin: 1, Seats: "AB.CD"}}
	four := []api.Sitter{sits(carrier(1), 1, 'A'), sits(carrier(1), 2, 'A'), sits(carrier(1), 1, 'C'), sits(carrier(1), 2, 'C')}
	wantAll(t, api.OK, twins, four...)
	for number := 1; number <= 2; number++ {
		for _, letter := range []byte("BD") {
			wantAll(t, api.OK, twins, append(slices.Clone(four), sits(plain(1), number, letter))...)
			wantAll(t, api.ErrQuota, twins, append(slices.Clone(four), sits(carrier(1), number, letter))...)
			wantAll(t, api.ErrQuota, twins, append([]api.Sitter{sits(carrier(1), number, letter)}, four...)...)
		}
	}
}

// P14.1: of several faults the first in the chapter's order; of several sitters the first one's.
func TestWhichFaultIsTold(t *testing.T) {
	rows := wideMap()
	full := []api.Sitter{sits(carrier(1), 3, 'A'), sits(helper(1), 4, 'A'), sits(plain(2), 9, 'A')}
	behind := func(s ...api.Sitter) []api.Sitter { return append(slices.Clone(full), s...) }
	wantAll(t, api.ErrTaken, rows, behind(sits(carrier(1), 3, 'A'))...) // and the block's second infant
	wantAll(t, api.ErrUnfit, rows, behind(sits(carrier(2), 3, 'A'))...) // and taken, and the second infant
	wantAll(t, api.ErrUnfit, rows, behind(sits(plain(1), 4, 'A'))...)   // and taken
	wantAll(t, api.ErrUnfit, rows, behind(sits(carrier(2), 3, 'B'))...) // and the second infant
	wantAll(t, api.ErrSeat, rows, behind(sits(carrier(7), 3, 'G'))...)
	wantAll(t, api.ErrBlocked, rows, behind(sits(carrier(7), 4, 'C'))...)
	faults := []struct {
		err    api.Errno
		sitter api.Sitter
	}{
		{api.ErrSeat, sits(plain(1), 3, 'G')}, {api.ErrBlocked, sits(plain(2), 9, 'B')}, {api.ErrUnfit, sits(plain(2), 3, 'B')},
		{api.ErrTaken, sits(plain(1), 3, 'A')}, {api.ErrQuota, sits(carrier(1), 3, 'C')},
	}
	for _, a := range faults {
		for _, b := range faults {
			wantAll(t, a.err, rows, behind(a.sitter, b.sitter)...)
			wantAll(t, a.err, rows, behind(a.sitter, sits(plain(1), 3, 'E'), b.sitter)...)
			wantFree(t, nil, rows, plain(2), behind(a.sitter, b.sitter)...)
		}
	}
	// One who may not sit there takes no seat; but the list has its error already.
	wantAll(t, api.ErrUnfit, rows, sits(plain(2), 3, 'A'), sits(plain(1), 3, 'A'))
	wantAll(t, api.ErrUnfit, rows, sits(carrier(2), 3, 'A'), sits(carrier(1), 3, 'B'))
}

// P14.1: Free, by hand.
func TestFree(t *testing.T) {
	rows := wideMap()
	front, all := seats(3, "ABCDEF"), append(seats(3, "ABCDEF"), seats(4, "ABD")...)
	wantFree(t, front, rows, plain(1))
	wantFree(t, front, rows, carrier(1))
	wantFree(t, front, rows, api.Who{Cabin: 1, Fit: true, Infant: true})
	wantFree(t, all, rows, helper(1))
	wantFree(t, seats(9, "AC"), rows, plain(2))
	wantFree(t, nil, rows, plain(3))
	wantFree(t, seats(3, "BCEF"), rows, plain(1), sits(plain(1), 3, 'D'), sits(plain(1), 3, 'A'))
	wantFree(t, seats(3, "DEF"), rows, plain(1), sits(plain(1), 3, 'B'), sits(plain(1), 3, 'A'), sits(plain(1), 3, 'C'))
	wantFree(t, seats(3, "DEF"), rows, carrier(1), sits(carrier(1), 3, 'B'))
	wantFree(t, append(seats(3, "ACDEF"), seats(4, "ABD")...), rows, helper(1), sits(carrier(1), 3, 'B'))
	wantFree(t, nil, rows, carrier(1), sits(carrier(1), 3, 'B'), sits(carrier(1), 3, 'F'))
	wantFree(t, seats(3, "ACDE"), rows, plain(1), sits(carrier(1), 3, 'B'), sits(carrier(1), 3, 'F'))
	wantFree(t, nil, rows, carrier(2), sits(carrier(2), 9, 'A'))
	wantFree(t, seats(9, "C"), rows, plain(2), sits(carrier(2), 9, 'A'))
	wantFree(t, nil, rows, plain(2), sits(plain(2), 9, 'A'), sits(plain(2), 9, 'C'))
	wantFree(t, nil, rows, plain(2), sits(plain(1), 3, 'A'), sits(plain(1), 3, 'A'))
	wantFree(t, nil, rows, plain(2), sits(carrier(1), 3, 'A'), sits(carrier(1), 3, 'B'))
}

// P14.1: the greatest map, full, and one who is too many.
func TestFullMap(t *testing.T) {
	var rows []api.Row
	var sitters []api.Sitter
	for n := 94; n <= 99; n++ {
		rows = append(rows, api.Row{Number: n, Cabin: 3, Seats: "ABC.XYZ"})
		for _, letter := range []byte("ABCXYZ") {
			w := plain(3)
			w.Infant = letter == 'B' || letter == 'Z'
			sitters = append(sitters, sits(w, n, letter))
		}
	}
	if len(sitters) != 36 {
		t.Fatal(len(sitters))
	}
	wantAll(t, api.OK, rows, sitters...)
	wantFree(t, nil, rows, plain(3), sitters...)
	for i, s := range sitters {
		rest := slices.Delete(slices.Clone(sitters), i, i+1)
		wantAll(t, api.OK, rows, rest...)
		wantFree(t, []api.Seat{s.Seat}, rows, plain(3), rest...)
		want := []api.Seat{s.Seat}
		if !s.Infant {
			want = nil
		}
		wantFree(t, want, rows, carrier(3), rest...)
		wantAll(t, api.ErrTaken, rows, append(slices.Clone(sitters), s)...)
	}
}

// P14.1: drawn maps and drawn sitters against the paper.
func TestPaper(t *testing.T) {
	draw := rand.New(rand.NewSource(1401))
	came := map[api.Errno]int{}
	for range 8000 {
		rows := drawnMap(draw)
		sitters := drawnSitters(draw, rows)
		want := paperAll(rows, sitters...)
		came[want]++
		wantAll(t, want, rows, sitters...)
		if (want == api.OK) != paperWell(rows, sitters...) {
			t.Fatalf("%v in %v: %d", sitters, rows, want)
		}
		w := drawnWho(draw)
		wantFree(t, paperFree(rows, w, sitters...), rows, w, sitters...)
		rows[draw.Intn(len(rows))].Cabin *= 4
		wantAll(t, api.ErrMap, rows, sitters...)
		wantFree(t, nil, rows, w, sitters...)
	}
	for _, err := range []api.Errno{api.OK, api.ErrSeat, api.ErrBlocked, api.ErrUnfit, api.ErrTaken, api.ErrQuota} {
		if came[err] < 100 {
			t.Fatalf("%v: the sitters say too little", came)
		}
	}
}

// P14.1: at each seat that Free answers All says OK, and at no other; in the seats' order.
func TestFreeIsAll(t *testing.T) {
	draw := rand.New(rand.NewSource(1402))
	free, not := 0, 0
	for range 1500 {
		rows := drawnMap(draw)
		sitters := drawnWell(draw, rows)
		w := drawnWho(draw)
		var want []api.Seat
		for _, spot := range cabin.Spots(rows...) {
			if All(rows, append(slices.Clone(sitters), api.Sitter{Who: w, Seat: spot.Seat})...) == api.OK {
				want = append(want, spot.Seat)
				free++
			} else {
				not++
			}
		}
		wantFree(t, want, rows, w, sitters...)
	}
	if free < 2000 || not < 2000 {
		t.Fatalf("%d free ones, %d others: the sitters say too little", free, not)
	}
}
