package cabin

import (
	"fmt"
	"math/rand"
	"slices"
	"strings"

	"tarmac/api"
)

// The calls on paper: they say the chapter's words with whole texts and lists, and go through no row sign by sign.

const (
	greats = "ABCDEFGHIJKLMNOPQRSTUVWXYZ"
	smalls = "abcdefghijklmnopqrstuvwxyz"
)

func paperSeats(seats string) bool {
	letters := strings.Split(strings.ReplaceAll(seats, ".", ""), "")
	for i, letter := range letters {
		if !strings.Contains(greats, letter) && !strings.Contains(smalls, letter) {
			return false
		}
		letters[i] = strings.ToUpper(letter)
	}
	set := slices.Compact(slices.Sorted(slices.Values(letters)))
	return slices.Equal(set, letters) && 1 <= len(letters) && len(letters) <= 6 &&
		!strings.HasPrefix(seats, ".") && !strings.HasSuffix(seats, ".") && !strings.Contains(seats, "..")
}

func paperRow(row api.Row) bool {
	return row.Number > 0 && row.Number < 100 && slices.Contains([]int{1, 2, 3}, row.Cabin) &&
		slices.Contains([]int{0, 1, 2, 3}, row.Zone) && paperSeats(row.Seats)
}

func paperCheck(rows ...api.Row) bool {
	var numbers []int
	for _, row := range rows {
		if !paperRow(row) {
			return false
		}
		numbers = append(numbers, row.Number)
	}
	set := slices.Compact(slices.Sorted(slices.Values(numbers)))
	return slices.Equal(set, numbers) && 1 <= len(rows) && len(rows) <= 6
}

// piece: what a row's aisles leave between them.
type piece struct {
	row  api.Row
	text string
}

func paperPieces(rows ...api.Row) []piece {
	var pieces []piece
	for _, row := range rows {
		for _, text := range strings.Split(row.Seats, ".") {
			pieces = append(pieces, piece{row, text})
		}
	}
	return pieces
}

func paperSpots(rows ...api.Row) []api.Spot {
	if !paperCheck(rows...) {
		return nil
	}
	var spots []api.Spot
	for block, p := range paperPieces(rows...) {
		for _, sign := range strings.Split(p.text, "") {
			spots = append(spots, api.Spot{
				Seat:  api.Seat{Number: p.row.Number, Letter: strings.ToUpper(sign)[0]},
				Cabin: p.row.Cabin, Zone: p.row.Zone, Block: block, Exit: p.row.Exit,
				Blocked: strings.Contains(smalls, sign),
			})
		}
	}
	return spots
}

func paperFind(seat api.Seat, rows ...api.Row) (api.Spot, bool) {
	for _, spot := range paperSpots(rows...) {
		if spot.Seat == seat {
			return spot, true
		}
	}
	return api.Spot{}, false
}

func paperBlocks(rows ...api.Row) []api.Block {
	if !paperCheck(rows...) {
		return nil
	}
	var blocks []api.Block
	for _, p := range paperPieces(rows...) {
		block := api.Block{Cabin: p.row.Cabin, Row: p.row.Number, Exit: p.row.Exit}
		for _, sign := range []byte(p.text) {
			if strings.Contains(greats, string(rune(sign))) {
				block.Seats = append(block.Seats, api.Seat{Number: p.row.Number, Letter: sign})
			}
		}
		blocks = append(blocks, block)
	}
	return blocks
}

func paperNear(a, b api.Seat, rows ...api.Row) bool {
	if !paperCheck(rows...) || a.Number != b.Number {
		return false
	}
	for _, p := range paperPieces(rows...) {
		text := strings.ToUpper(p.text)
		if p.row.Number == a.Number && (strings.Contains(text, string([]byte{a.Letter, b.Letter})) || strings.Contains(text, string([]byte{b.Letter, a.Letter}))) {
			return true
		}
	}
	return false
}

// paperLabels: each label with its seat.
func paperLabels() map[string]api.Seat {
	labels := map[string]api.Seat{}
	for number := 1; number <= 99; number++ {
		for i := range greats {
			labels[fmt.Sprintf("%d%s", number, greats[i:i+1])] = api.Seat{Number: number, Letter: greats[i]}
		}
	}
	return labels
}

// drawnSeats: a right row's Seats.
func drawnSeats(draw *rand.Rand) string {
	places := draw.Perm(26)[:1+draw.Intn(6)]
	slices.Sort(places)
	text := ""
	for i, place := range places {
		if i > 0 && draw.Intn(3) == 0 {
			text += "."
		}
		alphabet := greats
		if draw.Intn(3) == 0 {
			alphabet = smalls
		}
		text += alphabet[place : place+1]
	}
	return text
}

// drawnMap: a right map.
func drawnMap(draw *rand.Rand) []api.Row {
	numbers := draw.Perm(99)[:1+draw.Intn(6)]
	slices.Sort(numbers)
	var rows []api.Row
	for _, number := range numbers {
		rows = append(rows, api.Row{Number: number + 1, Cabin: 1 + draw.Intn(3), Zone: draw.Intn(4), Exit: draw.Intn(2) == 0, Seats: drawnSeats(draw)})
	}
	return rows
}

// spoilt: the map with something in it that is changed at a drawn place; it may be right even so.
func spoilt(draw *rand.Rand, rows []api.Row) []api.Row {
	at := draw.Intn(len(rows))
	row := &rows[at]
	switch draw.Intn(6) {
	case 0:
		row.Number = draw.Intn(102) - 1
	case 1:
		row.Cabin = draw.Intn(6) - 1
	case 2:
		row.Zone = draw.Intn(7) - 1
	case 3:
		cut := draw.Intn(len(row.Seats) + 1)
		signs := ".ABMZabmz@[`{ -0\x00\xff"
		sign := draw.Intn(len(signs))
		row.Seats = row.Seats[:cut] + signs[sign:sign+1] + row.Seats[cut:]
	case 4:
		cut := draw.Intn(len(row.Seats))
		row.Seats = row.Seats[:cut] + row.Seats[cut+1:]
	case 5:
		return slices.Insert(rows, at, rows[draw.Intn(len(rows))])
	}
	return rows
}

// drawnRows: a map that is right about every other time.
func drawnRows(draw *rand.Rand) []api.Row {
	rows := drawnMap(draw)
	if draw.Intn(3) > 0 {
		rows = spoilt(draw, rows)
	}
	return rows
}
