package fit

import (
	"math/rand"
	"slices"

	"tarmac/api"
	"tarmac/cabin"
)

// The calls on paper: well seated is told of a whole list at once, pair by pair and block by block, not by one who comes behind the others.

func paperFits(w api.Who, s api.Spot) bool {
	if s.Exit && (w.Infant || !w.Fit) {
		return false
	}
	return !s.Blocked && w.Cabin == s.Cabin
}

func paperOne(w api.Who, s api.Spot) api.Errno {
	switch {
	case s.Blocked:
		return api.ErrBlocked
	case !paperFits(w, s):
		return api.ErrUnfit
	}
	return api.OK
}

func eachFits(rows []api.Row, sitters []api.Sitter) bool {
	for _, s := range sitters {
		spot, ok := cabin.Find(s.Seat, rows...)
		if !ok || !paperFits(s.Who, spot) {
			return false
		}
	}
	return true
}

func seatsUnlike(sitters []api.Sitter) bool {
	for i, a := range sitters {
		for _, b := range sitters[:i] {
			if a.Seat == b.Seat {
				return false
			}
		}
	}
	return true
}

func infantsApart(rows []api.Row, sitters []api.Sitter) bool {
	for _, block := range cabin.Blocks(rows...) {
		n := 0
		for _, s := range sitters {
			if s.Infant && slices.Contains(block.Seats, s.Seat) {
				n++
			}
		}
		if n > 1 {
			return false
		}
	}
	return true
}

func paperWell(rows []api.Row, sitters ...api.Sitter) bool {
	return cabin.Check(rows...) == api.OK && eachFits(rows, sitters) && seatsUnlike(sitters) && infantsApart(rows, sitters)
}

func paperAll(rows []api.Row, sitters ...api.Sitter) api.Errno {
	if cabin.Check(rows...) != api.OK {
		return api.ErrMap
	}
	for i, s := range sitters {
		if paperWell(rows, sitters[:i+1]...) {
			continue
		}
		spot, ok := cabin.Find(s.Seat, rows...)
		switch {
		case !ok:
			return api.ErrSeat
		case paperOne(s.Who, spot) != api.OK:
			return paperOne(s.Who, spot)
		case !seatsUnlike(sitters[:i+1]):
			return api.ErrTaken
		}
		return api.ErrQuota
	}
	return api.OK
}

func paperFree(rows []api.Row, w api.Who, sitters ...api.Sitter) []api.Seat {
	var free []api.Seat
	for _, r := range rows {
		for letter := byte('A'); letter <= 'Z'; letter++ {
			seat := api.Seat{Number: r.Number, Letter: letter}
			if _, ok := cabin.Find(seat, rows...); ok && paperWell(rows, append(slices.Clone(sitters), api.Sitter{Who: w, Seat: seat})...) {
				free = append(free, seat)
			}
		}
	}
	return free
}

// drawnMap: a right map, whose rows are much alike.
func drawnMap(draw *rand.Rand) []api.Row {
	texts := []string{"A", "AB", "A.B", "aB", "Ab.C", "ABC", "ABC.DEF", "AB.CD.eF", "ab.cd", "A.bC.D", "BdF.hJZ"}
	number := 0
	var rows []api.Row
	for range 1 + draw.Intn(6) {
		number += 1 + draw.Intn(16)
		rows = append(rows, api.Row{
			Number: number, Cabin: 1 + draw.Intn(2), Zone: draw.Intn(4), Exit: draw.Intn(3) == 0,
			Seats: texts[draw.Intn(len(texts))],
		})
	}
	return rows
}

// drawnWho: somebody whom most maps have a seat for.
func drawnWho(draw *rand.Rand) api.Who {
	w := api.Who{Cabin: 1 + draw.Intn(2), Fit: draw.Intn(4) > 0, Infant: draw.Intn(2) == 0}
	if draw.Intn(40) == 0 {
		w.Cabin = draw.Intn(7) - 1
	}
	return w
}

// drawnSeat: a seat of the map; seldom one that may not be there.
func drawnSeat(draw *rand.Rand, rows []api.Row) api.Seat {
	spots := cabin.Spots(rows...)
	seat := spots[draw.Intn(len(spots))].Seat
	switch draw.Intn(30) {
	case 0:
		seat.Number++
	case 1:
		seat.Letter++
	case 2:
		seat.Letter += 'a' - 'A'
	}
	return seat
}

// drawnSitters: a few people at drawn seats, most of whom may sit there.
func drawnSitters(draw *rand.Rand, rows []api.Row) []api.Sitter {
	var sitters []api.Sitter
	for range draw.Intn(14) {
		s := api.Sitter{Who: drawnWho(draw), Seat: drawnSeat(draw, rows)}
		if draw.Intn(16) == 0 || eachFits(rows, []api.Sitter{s}) && (draw.Intn(3) == 0 || seatsUnlike(append(sitters, s))) {
			sitters = append(sitters, s)
		}
	}
	return sitters
}

// drawnWell: well seated people, as the paper tells it.
func drawnWell(draw *rand.Rand, rows []api.Row) []api.Sitter {
	var sitters []api.Sitter
	for range draw.Intn(50) {
		s := api.Sitter{Who: drawnWho(draw), Seat: drawnSeat(draw, rows)}
		if more := append(slices.Clone(sitters), s); paperWell(rows, more...) {
			sitters = more
		}
	}
	return sitters
}
