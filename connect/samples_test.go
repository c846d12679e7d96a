package connect_test

import (
	"maps"
	"slices"

	"unravel/api"
	"unravel/connect"
	"unravel/diagram"
	"unravel/example"
)

// summed is the connected sum of all diagrams, each of which is summed with the
// ones before at an edge that depends on the step.
func summed(step int, diagrams ...api.Diagram) api.Diagram {
	sum := example.Loops(1)
	for i, d := range diagrams {
		s, e := connect.Sum(sum, edgeOf(sum, step*i), d, edgeOf(d, step+i))
		if e != api.OK {
			panic("summed")
		}
		sum = s
	}
	return sum
}

func edgeOf(d api.Diagram, k int) int {
	if len(d.Signs) == 0 {
		return -1
	}
	return outgoing(d)[k%(2*len(d.Signs))]
}

func outgoing(d api.Diagram) []int {
	var list []int
	for h := range d.Mate {
		if diagram.Out(d, h) {
			list = append(list, h)
		}
	}
	return list
}

// samples lists valid diagrams, by names.
func samples() map[string]api.Diagram {
	all := example.Small()
	maps.Copy(all, example.Large())
	maps.Copy(all, map[string]api.Diagram{
		"granny knot":    summed(1, example.Trefoil(), example.Trefoil()),
		"three trefoils": summed(2, example.Trefoil(), example.Trefoil(), example.Trefoil()),
		"sum of many": summed(3, example.Kink(), example.Trefoil(), example.Hopf(), example.NegativeKink(),
			example.FigureEight(), example.Circles(1), example.Trefoil()),
		"other sum of many": summed(11, example.FigureEight(), example.Hopf(), example.Kink(), example.Twisted(5, -1),
			example.Kink(), example.Hopf(), example.NegativeKink()),
		"sum of many Hopfs":   summed(5, slices.Repeat([]api.Diagram{example.Hopf()}, 32)...),
		"limits and one part": example.WithLoops(summed(7, example.Twisted(32, 1), example.Twisted(32, -1)), api.MaxLoops),
	})
	return all
}

// everyDiagram visits the samples and all diagrams with up to three crossings,
// these with some loops.
func everyDiagram(visit func(d api.Diagram)) {
	for _, d := range samples() {
		visit(d)
	}
	for n := range 4 {
		example.EverySmall(n, func(d api.Diagram) { visit(example.WithLoops(d, n)) })
	}
}

// pairs visits all pairs of diagrams of few crossings in all, some with loops.
func pairs(visit func(a, b api.Diagram)) {
	for n := range 3 {
		example.EverySmall(n, func(a api.Diagram) {
			for k := range 3 {
				example.EverySmall(k, func(b api.Diagram) { visit(example.WithLoops(a, k), example.WithLoops(b, 2-n)) })
			}
		})
	}
}
