package store

import (
	"maps"
	"slices"

	"tarmac/api"
)

// looks is embedded by what can be looked back at.
type looks struct {
	given int         // the last number that was given
	seqs  map[int]int // by number, the last write that the look back sees
}

func (l *looks) take(seq int) int {
	l.given++
	l.seqs[l.given] = seq
	return l.given
}

// Free: the look back goes.
func (l *looks) Free(n int) api.Errno {
	if _, there := l.seqs[n]; !there {
		return api.ErrKey
	}
	delete(l.seqs, n)
	return api.OK
}

// seen: the writes up to which something is looked at, in any order.
func (l *looks) seen() []int { return slices.Collect(maps.Values(l.seqs)) }
