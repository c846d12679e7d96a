package moves

import (
	"slices"

	"unravel/api"
	"unravel/diagram"
)

// triangle returns the face to the left of a half-edge, if it can be slid over:
// between three crossings, with an edge over and an edge under the others.
func triangle(d api.Diagram, first int) (t [3]int, found bool) {
	second := nextOfFace(d, first)
	third := nextOfFace(d, second)
	t = [3]int{first, second, third}
	isClosed := nextOfFace(d, third) == first
	if !isClosed || first/4 == second/4 || second/4 == third/4 || third/4 == first/4 {
		return t, false
	}
	hasEdge := func(parity int) bool {
		return slices.ContainsFunc(t[:], func(h int) bool { return h%2 == parity && d.Mate[h]%2 == parity })
	}
	return t, hasEdge(0) && hasEdge(1)
}

func slid(d api.Diagram, x int) api.Diagram {
	t, _ := triangle(d, x)
	inner := map[int]int{}
	for _, h := range t {
		mate := d.Mate[h]
		inner[diagram.Opposite(h)], inner[diagram.Opposite(mate)] = mate, h
	}
	moved := func(h int) int {
		if g, ok := inner[h]; ok {
			return g
		}
		return h
	}
	r := diagram.Clone(d)
	for _, h := range t {
		ends := [2]int{diagram.Opposite(h), diagram.Opposite(d.Mate[h])}
		for _, u := range ends {
			join(r, moved(u), moved(d.Mate[u]))
		}
		join(r, ends[0], ends[1])
	}
	return r
}

// slideBack knows the new triangle: it is to the left of the opposites of the
// half-edges to the left of which the old one is.
func slideBack(d api.Diagram, x int) api.Move {
	t, _ := triangle(d, x)
	for i, h := range t {
		t[i] = diagram.Opposite(h)
	}
	return api.Move{Kind: api.Slide, X: least(t)}
}

func least(t [3]int) int {
	return slices.Min(t[:])
}
