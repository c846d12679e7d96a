package moves

import (
	"slices"

	"unravel/api"
	"unravel/diagram"
)

// In place of a half-edge, these numbers stand for a loop, by the way on which it
// is travelled.
const (
	loopAlong   = -1
	loopAgainst = -2
)

// outgoing asks nothing of the diagram, which diagram.Out examines as a whole.
func outgoing(d api.Diagram, h int) bool {
	under := h - h%4
	return h == under+2 || h == diagram.Turn(under, d.Signs[h/4])
}

func nextOfFace(d api.Diagram, h int) int {
	return diagram.Turn(d.Mate[h], -1)
}

// join changes the diagram itself, and so do thread and closeStrand.
func join(d api.Diagram, a, b int) {
	d.Mate[a], d.Mate[b] = b, a
}

// thread leads the edge of a half-edge, or a loop (a negative number), in at
// first and out at last.
func thread(d *api.Diagram, h, first, last int) {
	if h < 0 {
		join(*d, last, first)
		d.Loops--
		return
	}
	end := d.Mate[h]
	join(*d, h, first)
	join(*d, last, end)
}

// closeStrand takes the outer ends of a strand through crossings that are removed
// afterwards.
func closeStrand(d *api.Diagram, a, b int) {
	if d.Mate[a] == b {
		d.Loops++
		return
	}
	join(*d, d.Mate[a], d.Mate[b])
}

// grown adds crossings whose half-edges have no mates yet.
func grown(d api.Diagram, signs ...int) api.Diagram {
	return api.Diagram{
		Signs: slices.Concat(d.Signs, signs),
		Mate:  slices.Concat(d.Mate, make([]int, 4*len(signs))),
		Loops: d.Loops,
	}
}

// without removes crossings with which no other one is joined.
func without(d api.Diagram, removed ...int) api.Diagram {
	r := api.Diagram{Loops: d.Loops}
	for c, sign := range d.Signs {
		if slices.Contains(removed, c) {
			continue
		}
		r.Signs = append(r.Signs, sign)
		for _, mate := range d.Mate[4*c : 4*c+4] {
			r.Mate = append(r.Mate, renumbered(mate, removed...))
		}
	}
	return r
}

// renumbered gives a half-edge its number after the crossings were removed.
func renumbered(h int, removed ...int) int {
	number := h
	for _, c := range removed {
		if c < h/4 {
			number -= 4
		}
	}
	return number
}
