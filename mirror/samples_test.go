package mirror_test

import (
	"maps"

	"unravel/api"
	"unravel/example"
)

func nestedKinks() api.Diagram { return example.Of([]int{1, 1}, 0, 5, 4, 3, 2, 1, 0, 7, 6) }

func negativeHopf() api.Diagram { return example.Of([]int{-1, -1}, 0, 7, 6, 5, 4, 3, 2, 1, 0) }

func leftTrefoil() api.Diagram {
	return example.Of([]int{-1, -1, -1}, 0, 11, 10, 5, 4, 3, 2, 9, 8, 7, 6, 1, 0)
}

// samples lists valid diagrams, by names.
func samples() map[string]api.Diagram {
	all := example.Small()
	maps.Copy(all, example.Large())
	all["nested kinks"] = example.WithLoops(nestedKinks(), 2)
	return all
}

// everyDiagram visits the samples and all diagrams with up to three crossings,
// these with some loops.
func everyDiagram(visit func(d api.Diagram)) {
	for _, d := range samples() {
		visit(d)
	}
	for n := range 4 {
		example.EverySmall(n, func(d api.Diagram) { visit(example.WithLoops(d, n)) })
	}
}
