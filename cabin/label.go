package cabin

import (
	"strconv"

	"tarmac/api"
)

// Label: the seat as a text.
func Label(s api.Seat) string {
	if s.Number < 1 || s.Number > api.MaxNumber || !isLetter(s.Letter) {
		return "-"
	}
	return strconv.Itoa(s.Number) + string(rune(s.Letter))
}

// Parse: the seat of a text.
func Parse(text string) (api.Seat, bool) {
	if text == "" {
		return api.Seat{}, false
	}
	last := len(text) - 1
	number, err := strconv.Atoi(text[:last])
	seat := api.Seat{Number: number, Letter: text[last]}
	// Atoi reads signs and noughts in front too, which no label has.
	if err != nil || Label(seat) != text {
		return api.Seat{}, false
	}
	return seat, true
}
