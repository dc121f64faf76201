package cabin

import "tarmac/api"

// aisle stands between two blocks of a row.
const aisle = '.'

// rightRow: is the row right, whatever stands beside it?
func rightRow(row api.Row) bool {
	return 1 <= row.Number && row.Number <= api.MaxNumber &&
		1 <= row.Cabin && row.Cabin <= api.Cabins &&
		0 <= row.Zone && row.Zone < api.Zones &&
		rightSeats(row.Seats)
}

func rightSeats(seats string) bool {
	letters, last := 0, byte(0)
	// A row's ends are like aisles: no aisle stands beside them, nor beside another.
	edge := true
	for i := range len(seats) {
		if seats[i] == aisle {
			if edge {
				return false
			}
			edge = true
			continue
		}
		letter := great(seats[i])
		if !isLetter(letter) || letter <= last {
			return false
		}
		letters++
		last, edge = letter, false
	}
	return !edge && letters <= api.MaxLetters
}

// spot: the row's seat of that sign of its Seats.
func spot(row api.Row, sign byte, block int) api.Spot {
	letter := great(sign)
	return api.Spot{
		Seat:    api.Seat{Number: row.Number, Letter: letter},
		Cabin:   row.Cabin,
		Zone:    row.Zone,
		Block:   block,
		Exit:    row.Exit,
		Blocked: letter != sign,
	}
}

// great: a small letter's great one; whatever else, as it is.
func great(sign byte) byte {
	if 'a' <= sign && sign <= 'z' {
		return sign - 'a' + 'A'
	}
	return sign
}

func isLetter(sign byte) bool { return 'A' <= sign && sign <= 'Z' }
