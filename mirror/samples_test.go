package mirror_test

import (
	"math"
	"slices"
	"strings"

	"unravel/api"
	"unravel/diagram"
	"unravel/dowker"
	"unravel/gauss"
)

func diagramOf(signs []int, loops int, mate ...int) api.Diagram {
	return api.Diagram{Signs: signs, Mate: mate, Loops: loops}
}

func isZero(d api.Diagram) bool { return diagram.Equal(d, api.Diagram{}) }

func loops(n int) api.Diagram { return api.Diagram{Loops: n} }

func withLoops(d api.Diagram, n int) api.Diagram {
	d.Loops = n
	return d
}

func kink() api.Diagram { return diagramOf([]int{1}, 0, 1, 0, 3, 2) }

func negativeKink() api.Diagram { return diagramOf([]int{-1}, 0, 3, 2, 1, 0) }

func nestedKinks() api.Diagram { return diagramOf([]int{1, 1}, 0, 5, 4, 3, 2, 1, 0, 7, 6) }

func clasp() api.Diagram { return diagramOf([]int{1, -1}, 0, 6, 5, 4, 7, 2, 1, 0, 3) }

func hopf() api.Diagram { return diagramOf([]int{1, 1}, 0, 5, 4, 7, 6, 1, 0, 3, 2) }

func negativeHopf() api.Diagram { return diagramOf([]int{-1, -1}, 0, 7, 6, 5, 4, 3, 2, 1, 0) }

func trefoil() api.Diagram {
	return diagramOf([]int{1, 1, 1}, 0, 9, 4, 7, 10, 1, 8, 11, 2, 5, 0, 3, 6)
}

func leftTrefoil() api.Diagram {
	return diagramOf([]int{-1, -1, -1}, 0, 11, 10, 5, 4, 3, 2, 9, 8, 7, 6, 1, 0)
}

func figureEight() api.Diagram {
	return diagramOf([]int{1, -1, -1, 1}, 0, 11, 4, 15, 14, 1, 10, 9, 12, 13, 6, 5, 0, 7, 8, 3, 2)
}

func drawn(c gauss.Code) api.Diagram {
	d, e := gauss.Diagram(c)
	if e != api.OK {
		panic("drawn")
	}
	return d
}

func drawnText(words ...string) api.Diagram {
	c, _ := gauss.Parse(strings.Join(words, " "))
	return drawn(c)
}

func drawnDowker(code ...int) api.Diagram {
	d, e := dowker.Diagram(code)
	if e != api.OK {
		panic("drawnDowker")
	}
	return d
}

// twisted is the closure of the braid on two strands with n crossings of one sign.
func twisted(n, sign int) api.Diagram {
	c := gauss.Code{Signs: slices.Repeat([]int{sign}, n)}
	visits := func(first int, count int) {
		var comp []gauss.Visit
		for k := first; k < first+count; k++ {
			comp = append(comp, gauss.Visit{Crossing: k % n, Over: (k%2 == 0) == (k < n || n%2 == 1)})
		}
		c.Comps = append(c.Comps, comp)
	}
	if n%2 == 1 {
		visits(0, 2*n)
	} else {
		visits(0, n)
		visits(n, n)
	}
	return drawn(c)
}

// kinks is n crossings of the sign 1, each a graph component of its own.
func kinks(n int) api.Diagram {
	d := api.Diagram{Signs: slices.Repeat([]int{1}, n)}
	for h := range 4 * n {
		d.Mate = append(d.Mate, h^1)
	}
	return d
}

// samples lists valid diagrams, by names.
func samples() map[string]api.Diagram {
	return map[string]api.Diagram{
		"empty":              {},
		"empty slices":       diagramOf([]int{}, 0, []int{}...),
		"one loop":           loops(1),
		"MaxLoops":           loops(api.MaxLoops),
		"kink":               kink(),
		"negative kink":      negativeKink(),
		"kink and loops":     withLoops(kink(), 3),
		"kink, MaxLoops":     withLoops(kink(), api.MaxLoops),
		"nested kinks":       nestedKinks(),
		"clasp":              withLoops(clasp(), 2),
		"Hopf link":          hopf(),
		"negative Hopf link": negativeHopf(),
		"Hopf, MaxLoops":     withLoops(hopf(), api.MaxLoops),
		"trefoil":            trefoil(),
		"left trefoil":       leftTrefoil(),
		"figure-eight knot":  figureEight(),
		"8_19":               drawnDowker(4, 8, -12, 2, -14, -16, -6, -10),
		"10_123":             drawnDowker(8, 10, 12, 14, 16, 18, 20, 2, 4, 6),
		"Borromean rings":    drawnText("U1-O6+U3+O5-", "O1-U2-O3+U4+", "O2-U5-O4+U6+"),
		"chain of three":     drawnText("O1+U2+", "U1+O2+O3-U4-", "U3-O4-", "*"),
		"curl on a clasp":    drawnText("O1+O3+U3+O2-", "U1+U2-"),
		"apart":              drawnText("O1+U2+O3+U1+O2+U3+", "U4-O4-", "*", "*"),
		"alternating parts":  drawnText("O1+U3+O5+U1+O3+U5+", "U2-O4-U6-O2-U4-O6-", "*"),
		"odd twists":         twisted(63, 1),
		"even twists":        twisted(64, 1),
		"negative twists":    twisted(64, -1),
		"all limits":         withLoops(kinks(api.MaxCrossings), api.MaxLoops),
	}
}

// everySmall visits all valid diagrams with n crossings and without loops: all
// signs, with all ways to mate outgoing with incoming half-edges.
func everySmall(n int, visit func(d api.Diagram)) {
	for bits := range 1 << n {
		d := api.Diagram{Mate: make([]int, 4*n)}
		var outgoing, incoming []int
		for c := range n {
			sign := 1 - bits>>c&1*2
			d.Signs = append(d.Signs, sign)
			outgoing = append(outgoing, 4*c+2, 4*c+2-sign)
			incoming = append(incoming, 4*c, 4*c+2+sign)
		}
		everyMating(d, outgoing, incoming, visit)
	}
}

func everyMating(d api.Diagram, outgoing, incoming []int, visit func(d api.Diagram)) {
	if len(outgoing) == 0 {
		if diagram.Valid(d) {
			visit(d)
		}
		return
	}
	for i, in := range incoming {
		d.Mate[outgoing[0]], d.Mate[in] = in, outgoing[0]
		everyMating(d, outgoing[1:], slices.Concat(incoming[:i], incoming[i+1:]), visit)
	}
}

// everyDiagram visits the samples and all diagrams with up to three crossings,
// these with some loops.
func everyDiagram(visit func(d api.Diagram)) {
	for _, d := range samples() {
		visit(d)
	}
	for n := range 4 {
		everySmall(n, func(d api.Diagram) { visit(withLoops(d, n)) })
	}
}

// invalidDiagrams lists diagrams that are not valid.
func invalidDiagrams() []api.Diagram {
	return []api.Diagram{
		diagramOf([]int{1}, 0, 2, 3, 0, 1),
		diagramOf([]int{1}, 0, 3, 2, 1, 0),
		diagramOf([]int{-1}, 0, 1, 0, 3, 2),
		diagramOf([]int{0}, 0, 1, 0, 3, 2),
		diagramOf([]int{2}, 0, 1, 0, 3, 2),
		diagramOf([]int{1}, 0, 1, 0, 3),
		diagramOf([]int{1}, 0, 1, 0, 3, 4),
		diagramOf([]int{1}, 0, -1, 0, 3, 2),
		diagramOf([]int{1}, 0, 0, 1, 2, 3),
		diagramOf([]int{1}, 0, 1, 0, 3, 2, 5, 4, 7, 6),
		diagramOf([]int{1}, 0),
		diagramOf(nil, 0, 1, 0),
		withLoops(kink(), -1),
		withLoops(kink(), api.MaxLoops+1),
		diagramOf([]int{1, 1}, 0, 6, 7, 5, 4, 3, 2, 0, 1),
		loops(-1),
		loops(math.MinInt),
		loops(api.MaxLoops + 1),
		loops(math.MaxInt),
		kinks(api.MaxCrossings + 1),
		kinks(100 * api.MaxCrossings),
	}
}
