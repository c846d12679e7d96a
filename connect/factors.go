package connect

import (
	"slices"

	"unravel/api"
	"unravel/diagram"
)

// Cuts finds none in a diagram that is not valid, because it has no strands.
func Cuts(d api.Diagram) [][2]int {
	edges := slices.Concat(diagram.Strands(d)...)
	slices.Sort(edges)
	face := faceNumbers(d)
	sides := func(x int) [2]int { return [2]int{face[x], face[d.Mate[x]]} }
	var cuts [][2]int
	for i, x := range edges {
		sidesOfX := sides(x)
		for _, y := range edges[i+1:] {
			if sides(y) == sidesOfX {
				cuts = append(cuts, [2]int{x, y})
			}
		}
	}
	return cuts
}

func Factor(d api.Diagram, x, y int) (api.Diagram, api.Diagram, api.Errno) {
	switch {
	case !diagram.Valid(d):
		return api.Diagram{}, api.Diagram{}, api.ErrArg
	case !diagram.Out(d, x) || !diagram.Out(d, y):
		return api.Diagram{}, api.Diagram{}, api.ErrRange
	case !slices.Contains(Cuts(d), [2]int{min(x, y), max(x, y)}):
		return api.Diagram{}, api.Diagram{}, api.ErrMove
	}
	apart := diagram.Clone(d)
	exchangeMates(apart, x, y)
	return partAt(apart, x), partAt(apart, y), api.OK
}

func partAt(d api.Diagram, h int) api.Diagram {
	graph := diagram.Graph(d)
	k := slices.IndexFunc(graph, func(crossings []int) bool { return slices.Contains(crossings, h/4) })
	return part(d, graph[k])
}

func Factors(d api.Diagram) []api.Diagram {
	return factorsOf(Split(d)...)
}

// factorsOf needs connected diagrams. It ends because both sides of a cut have
// fewer crossings.
func factorsOf(diagrams ...api.Diagram) []api.Diagram {
	var factors []api.Diagram
	for _, d := range diagrams {
		cuts := Cuts(d)
		if len(cuts) == 0 {
			factors = append(factors, d)
			continue
		}
		first, second, _ := Factor(d, cuts[0][0], cuts[0][1])
		factors = append(factors, factorsOf(first, second)...)
	}
	return factors
}
