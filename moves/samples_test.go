package moves_test

import (
	"unravel/api"
	"unravel/canon"
	"unravel/example"
)

// everyClass visits one diagram of all that differ by the numbering alone, of up
// to three crossings, with some loops.
func everyClass(visit func(d api.Diagram)) {
	for n := range 4 {
		known := map[string]bool{}
		example.EverySmall(n, func(d api.Diagram) {
			key := canon.Key(d)
			if !known[key] {
				visit(example.WithLoops(d, len(known)%3))
			}
			known[key] = true
		})
	}
}

// everySmallWithLoops visits all diagrams with up to three crossings, with too
// few loops for some moves, and with enough for all.
func everySmallWithLoops(visit func(d api.Diagram)) {
	for n := range 3 {
		for k := range 3 {
			example.EverySmall(n, func(d api.Diagram) { visit(example.WithLoops(d, k)) })
		}
	}
	example.EverySmall(3, func(d api.Diagram) { visit(example.WithLoops(d, d.Mate[0]%3)) })
}
