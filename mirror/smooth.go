package mirror

import (
	"slices"

	"unravel/api"
	"unravel/diagram"
)

func Smooth(d api.Diagram, crossing int) (api.Diagram, api.Errno) {
	if e := crossingError(d, crossing); e != api.OK {
		return api.Diagram{}, e
	}
	next := nextAtSmoothed(d, crossing)
	loops := d.Loops + closedUp(next)
	if loops > api.MaxLoops {
		return api.Diagram{}, api.ErrFull
	}
	signs := slices.Concat(d.Signs[:crossing], d.Signs[crossing+1:])
	return api.Diagram{Signs: signs, Mate: matesWithout(d, crossing, next), Loops: loops}, api.OK
}

// nextAtSmoothed leads from each half-edge by which a strand comes in at the
// smoothed crossing to the incoming half-edge that the strand reaches next.
func nextAtSmoothed(d api.Diagram, crossing int) map[int]int {
	underIn, overOut := 4*crossing, overOutgoing(d, crossing)
	return map[int]int{
		underIn:                   d.Mate[overOut],
		diagram.Opposite(overOut): d.Mate[diagram.Opposite(underIn)],
	}
}

// closedUp counts the strands that close up without another crossing. No such
// strand comes in at both half-edges: the over strand would be a circle that
// crosses the under strand once, which is impossible on a sphere.
func closedUp(next map[int]int) int {
	count := 0
	for in, reached := range next {
		if reached == in {
			count++
		}
	}
	return count
}

// matesWithout follows the strands from the other crossings past the smoothed
// one.
func matesWithout(d api.Diagram, crossing int, next map[int]int) []int {
	mate := make([]int, len(d.Mate)-4)
	number := func(h int) int {
		if h/4 > crossing {
			return h - 4
		}
		return h
	}
	follow := func(out int) {
		in := d.Mate[out]
		for reached, passes := next[in]; passes; reached, passes = next[in] {
			in = reached
		}
		out, in = number(out), number(in)
		mate[out], mate[in] = in, out
	}
	for c := range d.Signs {
		if c != crossing {
			follow(4*c + 2)
			follow(overOutgoing(d, c))
		}
	}
	return mate
}

func overOutgoing(d api.Diagram, crossing int) int {
	return diagram.Turn(4*crossing, d.Signs[crossing])
}
