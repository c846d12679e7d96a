package moves

import (
	"unravel/api"
	"unravel/diagram"
)

// The sides of a crossing in the drawing of a Poke, counterclockwise.
const (
	east = iota
	north
	west
	south
)

// sides are the half-edges of a crossing, by the sides on which they are drawn.
type sides [4]int

func sidesFrom(eastern int) sides {
	var s sides
	for side := range s {
		s[side] = diagram.Turn(eastern, side)
	}
	return s
}

func poked(d api.Diagram, m api.Move) api.Diagram {
	line, up, down := east, south, north
	if !alongStrand(d, m.Y) {
		line = west
	}
	if !alongStrand(d, m.X) {
		up, down = north, south
	}
	n := len(d.Mate)
	p, signOfP := crossingFrom(n, line, up, m.Over)
	q, signOfQ := crossingFrom(n+4, line, down, m.Over)
	r := grown(d, signOfP, signOfQ)
	join(r, p[north], q[north])
	join(r, p[east], q[west])
	switch m.Sign {
	case 1:
		join(r, q[south], q[east])
		thread(&r, m.X, p[south], p[west])
	case -1:
		join(r, p[west], p[south])
		thread(&r, m.X, q[east], q[south])
	default:
		thread(&r, m.X, p[south], q[south])
		thread(&r, m.Y, q[east], p[west])
	}
	return r
}

// alongStrand reports whether an edge or a loop is travelled in its direction.
func alongStrand(d api.Diagram, h int) bool {
	return h == loopAlong || h >= 0 && outgoing(d, h)
}

// crossingFrom places the half-edges from first on, if the line and the other
// strand come in from these sides.
func crossingFrom(first, line, other int, otherIsOver bool) (at sides, sign int) {
	under, over := other, line
	if otherIsOver {
		under, over = line, other
	}
	at = sidesFrom(diagram.Turn(first, -under))
	if at[over]%4 == 3 {
		return at, 1
	}
	return at, -1
}

// bigon returns the least half-edge to the left of which there is a face between
// the two crossings, one edge of which is over the other one. Each crossing has
// one half-edge of such a face, so that the least one is at the first crossing.
func bigon(d api.Diagram, x, y int) (h int, found bool) {
	for h := 4 * x; h < 4*x+4; h++ {
		mate := d.Mate[h]
		isBetween := mate/4 == y && mate%2 == h%2
		if isBetween && nextOfFace(d, nextOfFace(d, h)) == h {
			return h, true
		}
	}
	return 0, false
}

func sidesOfBigon(d api.Diagram, x, y int) (p, q sides) {
	h, _ := bigon(d, x, y)
	return sidesFrom(h), sidesFrom(diagram.Opposite(d.Mate[h]))
}

func unpoked(d api.Diagram, x, y int) api.Diagram {
	p, q := sidesOfBigon(d, x, y)
	r := diagram.Clone(d)
	closeStrand(&r, q[east], p[west])
	closeStrand(&r, p[south], q[south])
	return without(r, x, y)
}

func pokeBack(d api.Diagram, x, y int) api.Move {
	p, q := sidesOfBigon(d, x, y)
	asLoop := func(h int) int {
		if outgoing(d, h) {
			return loopAgainst
		}
		return loopAlong
	}
	before := func(h int) int { return renumbered(d.Mate[h], x, y) }
	edge := func(first, last int) int {
		if d.Mate[first] == last {
			return asLoop(first)
		}
		return before(first)
	}
	back := func(x, y, sign int) api.Move {
		return api.Move{Kind: api.Poke, X: x, Y: y, Sign: sign, Over: q[north]%2 == 1}
	}
	turnsInEast, turnsInWest := d.Mate[q[south]] == q[east], d.Mate[p[west]] == p[south]
	switch {
	case turnsInEast && turnsInWest:
		return back(asLoop(p[south]), asLoop(p[south]), 1)
	case turnsInEast:
		return back(before(p[south]), before(p[south]), 1)
	case turnsInWest:
		return back(before(q[east]), before(q[east]), -1)
	}
	return back(edge(p[south], q[south]), edge(q[east], p[west]), 0)
}
