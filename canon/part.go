package canon

import (
	"cmp"
	"slices"

	"unravel/api"
	"unravel/diagram"
)

const numbersPerCrossing = 5

// A part is a graph component with its code, its crossings in the order of a
// numbering that yields the code, and how many crossings yield it. Each of them
// is one symmetry, since a numbering is determined by where it begins.
type part struct {
	code, order []int
	symmetries  int
}

// sortedParts lists the graph components in the order of the code of the
// diagram; there are none if it is not valid.
func sortedParts(d api.Diagram) []part {
	var parts []part
	for _, crossings := range diagram.Graph(d) {
		parts = append(parts, leastPart(d, crossings))
	}
	slices.SortFunc(parts, func(a, b part) int {
		return cmp.Or(cmp.Compare(len(a.order), len(b.order)), slices.Compare(a.code, b.code))
	})
	return parts
}

func leastPart(d api.Diagram, crossings []int) part {
	least, other := newPart(len(crossings)), newPart(len(crossings))
	least.numberFrom(d, crossings[0], nil)
	least.symmetries = 1
	for _, root := range crossings[1:] {
		other.numberFrom(d, root, least.code)
		switch c := slices.Compare(other.code, least.code); {
		case c == 0:
			least.symmetries++
		case c < 0:
			least, other = other, least
			least.symmetries = 1
		}
	}
	return least
}

func newPart(crossings int) part {
	return part{code: make([]int, 0, numbersPerCrossing*crossings), order: make([]int, 0, crossings)}
}

// numberFrom numbers the crossings from root, and writes the code. It stops
// after the first crossing that makes the code greater than bound, because most
// codes are, and searches ask for very many of them. Without a bound it does not
// stop.
func (p *part) numberFrom(d api.Diagram, root int, bound []int) {
	var numbers [api.MaxCrossings]int // from 1 on, so that 0 is no number
	p.order, p.code = append(p.order[:0], root), p.code[:0]
	numbers[root] = 1
	tied := len(bound) > 0
	for i := 0; i < len(p.order); i++ {
		written := len(p.code)
		p.visit(d, p.order[i], &numbers)
		if tied {
			c := slices.Compare(p.code[written:], bound[written:len(p.code)])
			if c > 0 {
				return
			}
			tied = c == 0
		}
	}
}

func (p *part) visit(d api.Diagram, crossing int, numbers *[api.MaxCrossings]int) {
	p.code = append(p.code, d.Signs[crossing])
	for _, mate := range d.Mate[4*crossing : 4*crossing+4] {
		if numbers[mate/4] == 0 {
			p.order = append(p.order, mate/4)
			numbers[mate/4] = len(p.order)
		}
		p.code = append(p.code, 4*(numbers[mate/4]-1)+mate%4)
	}
}
