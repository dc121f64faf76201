package vfs

import "tarmac/api"

// power is embedded by what lives of it: it counts the acts, and goes when an act's fate says so.
type power struct {
	acts    int
	armedAt int         // acts ahead of the arming
	fates   map[int]int // by At, the kinds of those that are still to come
	down    bool
}

// Arm: what happens at which act.
func (p *power) Arm(fates ...api.Fate) {
	p.armedAt = p.acts
	p.fates = map[int]int{}
	for _, fate := range fates {
		// A first fate of no right kind counts too: it keeps later ones of its At from coming.
		if _, earlier := p.fates[fate.At]; !earlier && fate.At >= 0 {
			p.fates[fate.At] = fate.Kind
		}
	}
}

// Acts: how many acts there were.
func (p *power) Acts() int { return p.acts }

// Down: has the power gone?
func (p *power) Down() bool { return p.down }

// nextFate begins an act, and answers the kind of its fate: 0, if it has none.
func (p *power) nextFate() int {
	at := p.acts - p.armedAt
	p.acts++
	kind := p.fates[at]
	delete(p.fates, at)
	return kind
}

// under lets an act have its effect as far as its fate allows.
func (p *power) under(fate int, effect func()) api.Errno {
	if fate != api.FateBefore {
		effect()
	}
	p.down = fate == api.FateBefore || fate == api.FateAfter
	if p.down {
		return api.ErrDown
	}
	return api.OK
}
