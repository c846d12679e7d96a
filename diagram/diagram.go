// Package diagram is layer 1: see shared/doc/01-diagram.md.
package diagram

import (
	"slices"

	"unravel/api"
)

// Valid is asked first by nearly every function of every layer, so it works on
// arrays of a fixed size and allocates nothing.
func Valid(d api.Diagram) bool {
	return withinLimits(d) && signsValid(d.Signs) && matesPaired(d) && spherical(d)
}

func Clone(d api.Diagram) api.Diagram {
	return api.Diagram{Signs: slices.Clone(d.Signs), Mate: slices.Clone(d.Mate), Loops: d.Loops}
}

func Equal(a, b api.Diagram) bool {
	return slices.Equal(a.Signs, b.Signs) && slices.Equal(a.Mate, b.Mate) && a.Loops == b.Loops
}

func Renumber(d api.Diagram, order []int) (api.Diagram, api.Errno) {
	if !Valid(d) {
		return api.Diagram{}, api.ErrArg
	}
	number, ok := inverse(order, len(d.Signs))
	if !ok {
		return api.Diagram{}, api.ErrRange
	}
	renumbered := Clone(d)
	for i, c := range order {
		renumbered.Signs[i] = d.Signs[c]
		for slot := range 4 {
			mate := d.Mate[4*c+slot]
			renumbered.Mate[4*i+slot] = 4*number[mate/4] + mate%4
		}
	}
	return renumbered, api.OK
}

// inverse also reports whether order is a permutation of 0 to n - 1.
func inverse(order []int, n int) ([]int, bool) {
	if len(order) != n {
		return nil, false
	}
	place := slices.Repeat([]int{-1}, n)
	for i, c := range order {
		if c < 0 || c >= n || place[c] >= 0 {
			return nil, false
		}
		place[c] = i
	}
	return place, true
}

func withinLimits(d api.Diagram) bool {
	return len(d.Signs) <= api.MaxCrossings && len(d.Mate) == 4*len(d.Signs) &&
		0 <= d.Loops && d.Loops <= api.MaxLoops
}

func signsValid(signs []int) bool {
	return !slices.ContainsFunc(signs, func(sign int) bool { return sign != 1 && sign != -1 })
}

// matesPaired needs no test for a half-edge that is its own mate: such a pair
// is not one of an outgoing and an incoming half-edge.
func matesPaired(d api.Diagram) bool {
	for h, mate := range d.Mate {
		if mate < 0 || mate >= len(d.Mate) || d.Mate[mate] != h {
			return false
		}
		if outgoing(d, h) == outgoing(d, mate) {
			return false
		}
	}
	return true
}
