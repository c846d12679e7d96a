package dowker

import (
	"slices"

	"unravel/api"
	"unravel/diagram"
)

func Signs(code []int) ([]int, api.Errno) {
	d, e := Diagram(code)
	return d.Signs, e
}

func Diagram(code []int) (api.Diagram, api.Errno) {
	if !Valid(code) {
		return api.Diagram{}, api.ErrForm
	}
	if len(code) > api.MaxStates {
		return api.Diagram{}, api.ErrFull
	}
	d, ok := firstDrawn(code)
	if !ok {
		return api.Diagram{}, api.ErrGenus
	}
	return d, api.OK
}

// firstDrawn leaves the first sign at 1: if some signs make the diagram valid,
// their negatives do as well.
func firstDrawn(code []int) (api.Diagram, bool) {
	n := len(code)
	d := api.Diagram{Signs: slices.Repeat([]int{1}, n), Mate: make([]int, 4*n)}
	var drawnFrom func(int) bool
	drawnFrom = func(i int) bool {
		if i == n {
			joinPassages(d, code)
			return diagram.Valid(d)
		}
		for sign := 1; sign >= -1; sign -= 2 {
			d.Signs[i] = sign
			if drawnFrom(i + 1) {
				return true
			}
		}
		return false
	}
	if !drawnFrom(1) {
		return api.Diagram{}, false
	}
	return d, true
}

// joinPassages sets all mates of a diagram that has its signs.
func joinPassages(d api.Diagram, code []int) {
	exits := exitsOf(code, d.Signs)
	for i, out := range exits {
		in := diagram.Opposite(exits[(i+1)%len(exits)])
		d.Mate[out], d.Mate[in] = in, out
	}
}

// exitsOf lists the half-edges by which the passages leave their crossings,
// that of the passage 1 first.
func exitsOf(code, signs []int) []int {
	exits := make([]int, 2*len(code))
	for i, number := range code {
		over, under := 2*i+1, evenPassage(number)
		if number < 0 {
			over, under = under, over
		}
		exits[over-1] = 4*i + slotOverLeaves(signs[i])
		exits[under-1] = 4*i + 2
	}
	return exits
}

func slotOverLeaves(sign int) int {
	if sign == 1 {
		return 1
	}
	return 3
}
