package fit

import (
	"tarmac/api"
	"tarmac/cabin"
)

// plan is a right map on which people sit, all of them well seated.
type plan struct {
	spots   map[api.Seat]api.Spot
	sitters map[api.Seat]api.Sitter
	infants map[int]int // of each block, by its number
}

// seatAll: the plan with all of them; else the error of the first who may not sit so.
func seatAll(rows []api.Row, sitters []api.Sitter) (*plan, api.Errno) {
	if err := cabin.Check(rows...); err != api.OK {
		return nil, err
	}
	p := empty(rows)
	for _, s := range sitters {
		if err := p.may(s); err != api.OK {
			return nil, err
		}
		p.seat(s)
	}
	return p, api.OK
}

// empty: the right map, with nobody on it.
func empty(rows []api.Row) *plan {
	p := &plan{spots: map[api.Seat]api.Spot{}, sitters: map[api.Seat]api.Sitter{}, infants: map[int]int{}}
	for _, spot := range cabin.Spots(rows...) {
		p.spots[spot.Seat] = spot
	}
	return p
}

// may: could this one sit beside those who sit there?
func (p *plan) may(s api.Sitter) api.Errno {
	spot, there := p.spots[s.Seat]
	if !there {
		return api.ErrSeat
	}
	if err := One(s.Who, spot); err != api.OK {
		return err
	}
	if _, taken := p.sitters[s.Seat]; taken {
		return api.ErrTaken
	}
	if s.Infant && p.infants[spot.Block] >= api.Quota {
		return api.ErrQuota
	}
	return api.OK
}

// seat sets one there who may sit there.
func (p *plan) seat(s api.Sitter) {
	p.sitters[s.Seat] = s
	if s.Infant {
		p.infants[p.spots[s.Seat].Block]++
	}
}
