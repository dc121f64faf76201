package fit

import (
	"math"
	"math/rand"
	"slices"
	"testing"

	"tarmac/api"
	"tarmac/cabin"
)

// P14.2: each one taken out, any order.
func TestFewerAndAnyOrder(t *testing.T) {
	draw := rand.New(rand.NewSource(1403))
	people, infants := 0, 0
	for range 1500 {
		rows := drawnMap(draw)
		sitters := drawnWell(draw, rows)
		wantAll(t, api.OK, rows, sitters...)
		for i, s := range sitters {
			rest := slices.Delete(slices.Clone(sitters), i, i+1)
			wantAll(t, api.OK, rows, rest...)
			if !slices.Contains(Free(rows, s.Who, rest...), s.Seat) {
				t.Fatalf("%v isn't free for who sat there, in %v beside %v", s, rows, rest)
			}
			people++
			if s.Infant {
				infants++
			}
		}
		for range 5 {
			draw.Shuffle(len(sitters), func(i, j int) { sitters[i], sitters[j] = sitters[j], sitters[i] })
			wantAll(t, api.OK, rows, sitters...)
		}
		slices.Reverse(sitters)
		wantAll(t, api.OK, rows, sitters[:draw.Intn(len(sitters)+1)]...)
	}
	if people < 4000 || infants < 1000 {
		t.Fatalf("%d people, %d infants: the sitters say too little", people, infants)
	}
}

// P14.3: two of one Who exchange their seats; two who sit in one block do, whoever they are.
func TestExchanges(t *testing.T) {
	draw := rand.New(rand.NewSource(1404))
	alike, near, never := 0, 0, 0
	for range 1500 {
		rows := drawnMap(draw)
		sitters := drawnWell(draw, rows)
		for i, a := range sitters {
			for j, b := range sitters[:i] {
				one, _ := cabin.Find(a.Seat, rows...)
				other, _ := cabin.Find(b.Seat, rows...)
				changed := slices.Clone(sitters)
				changed[i].Seat, changed[j].Seat = b.Seat, a.Seat
				switch {
				case a.Who == b.Who:
					alike++
				case one.Block == other.Block:
					near++
				default:
					if All(rows, changed...) != api.OK {
						never++
					}
					continue
				}
				wantAll(t, api.OK, rows, changed...)
			}
		}
	}
	if alike < 500 || near < 500 || never < 500 {
		t.Fatalf("%d alike, %d in one block, %d others that may not: the sitters say too little", alike, near, never)
	}
}

// spare: the list with memory behind it, which has something in it.
func spare[T any](list []T, rest T) []T {
	with := append(slices.Clone(list), rest, rest, rest)
	return with[:len(list)]
}

// R5: what is handed in stays as it was, and what is answered is new memory.
func TestMemory(t *testing.T) {
	draw := rand.New(rand.NewSource(1405))
	for range 500 {
		drawn := drawnMap(draw)
		rows := spare(drawn, api.Row{Number: 77, Seats: "spare"})
		sitters := spare(drawnWell(draw, drawn), sits(carrier(77), 77, '7'))
		if draw.Intn(4) == 0 {
			sitters = spare(drawnSitters(draw, drawn), sits(carrier(77), 77, '7'))
		}
		w := drawnWho(draw)
		oldRows, oldSitters := slices.Clone(rows[:cap(rows)]), slices.Clone(sitters[:cap(sitters)])
		wantAll(t, paperAll(drawn, sitters...), rows, sitters...)
		want := paperFree(drawn, w, sitters...)
		first := Free(rows, w, sitters...)
		second := Free(rows, w, sitters...)
		for i := range first[:cap(first)] {
			first[:cap(first)][i] = at(-1, '-')
		}
		if !slices.Equal(second, want) {
			t.Fatalf("%v, not %v: it hangs on another answer", second, want)
		}
		wantFree(t, want, rows, w, sitters...)
		if !slices.Equal(rows[:cap(rows)], oldRows) || !slices.Equal(sitters[:cap(sitters)], oldSitters) {
			t.Fatalf("%v and %v were changed", rows, sitters)
		}
	}
}

// R1: no rows, seats and sitters make a call panic.
func TestWhateverIsGiven(t *testing.T) {
	draw := rand.New(rand.NewSource(1406))
	numbers := []int{0, 1, 2, 3, -1, 99, 100, math.MinInt, math.MaxInt}
	number := func() int { return numbers[draw.Intn(len(numbers))] }
	texts := []string{"", ".", "A", "A.B", "aB", "ABC.DEF", "ABCDEFG", "\xff\x00", "..", "日本"}
	who := func() api.Who { return api.Who{Cabin: number(), Fit: draw.Intn(2) == 0, Infant: draw.Intn(2) == 0} }
	for range 20000 {
		var rows []api.Row
		for range draw.Intn(4) {
			rows = append(rows, api.Row{Number: number(), Cabin: number(), Zone: number(), Exit: draw.Intn(2) == 0, Seats: texts[draw.Intn(len(texts))]})
		}
		var sitters []api.Sitter
		for range draw.Intn(4) {
			sitters = append(sitters, api.Sitter{Who: who(), Seat: at(number(), byte(draw.Intn(256)))})
		}
		w := who()
		wantAll(t, paperAll(rows, sitters...), rows, sitters...)
		wantFree(t, paperFree(rows, w, sitters...), rows, w, sitters...)
		spot := api.Spot{Cabin: number(), Zone: number(), Block: number(), Exit: draw.Intn(2) == 0, Blocked: draw.Intn(2) == 0}
		wantOne(t, paperOne(w, spot), w, spot)
	}
}
