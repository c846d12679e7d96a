package connect_test

import (
	"math"
	"slices"

	"unravel/api"
	"unravel/connect"
	"unravel/diagram"
	"unravel/dowker"
	"unravel/gauss"
)

func diagramOf(signs []int, loops int, mate ...int) api.Diagram {
	return api.Diagram{Signs: signs, Mate: mate, Loops: loops}
}

func isZero(d api.Diagram) bool { return diagram.Equal(d, api.Diagram{}) }

func loops(n int) api.Diagram { return api.Diagram{Loops: n} }

func withLoops(d api.Diagram, n int) api.Diagram {
	d.Loops = n
	return d
}

func drawn(c gauss.Code) api.Diagram {
	d, e := gauss.Diagram(c)
	if e != api.OK {
		panic("drawn")
	}
	return d
}

func drawnText(text string) api.Diagram {
	c, e := gauss.Parse(text)
	if e != api.OK {
		panic("drawnText")
	}
	return drawn(c)
}

func drawnDowker(code ...int) api.Diagram {
	d, e := dowker.Diagram(code)
	if e != api.OK {
		panic("drawnDowker")
	}
	return d
}

func kink() api.Diagram { return diagramOf([]int{1}, 0, 1, 0, 3, 2) }

func negativeKink() api.Diagram { return diagramOf([]int{-1}, 0, 3, 2, 1, 0) }

func trefoil() api.Diagram {
	return diagramOf([]int{1, 1, 1}, 0, 9, 4, 7, 10, 1, 8, 11, 2, 5, 0, 3, 6)
}

func hopf() api.Diagram { return drawnText("O1+U2+ U1+O2+") }

// clasp is two circles, one over the other.
func clasp() api.Diagram { return drawnText("O1+O2- U1+U2-") }

func figureEight() api.Diagram { return drawnDowker(4, 6, 8, 2) }

// twisted is the closure of the braid on two strands with n crossings of one sign.
func twisted(n, sign int) api.Diagram {
	d := api.Diagram{Signs: slices.Repeat([]int{sign}, n), Mate: make([]int, 4*n)}
	join := func(out, in int) { d.Mate[out], d.Mate[in] = in, out }
	for c := range n {
		next := 4 * ((c + 1) % n)
		join(diagram.Turn(4*c, sign), next)
		join(4*c+2, diagram.Turn(next, -sign))
	}
	return d
}

// kinks is n crossings of the sign 1, each a graph component of its own.
func kinks(n int) api.Diagram {
	d := api.Diagram{Signs: slices.Repeat([]int{1}, n)}
	for h := range 4 * n {
		d.Mate = append(d.Mate, h^1)
	}
	return d
}

// chain is one strand with n kinks of the sign 1.
func chain(n int) api.Diagram {
	c := gauss.Code{Comps: make([][]gauss.Visit, 1), Signs: slices.Repeat([]int{1}, n)}
	for k := range n {
		c.Comps[0] = append(c.Comps[0], gauss.Visit{Crossing: k, Over: true}, gauss.Visit{Crossing: k})
	}
	return drawn(c)
}

// summed is the connected sum of all diagrams, each of which is summed with the
// ones before at an edge that depends on the step.
func summed(step int, diagrams ...api.Diagram) api.Diagram {
	sum := loops(1)
	for i, d := range diagrams {
		s, e := connect.Sum(sum, edgeOf(sum, step*i), d, edgeOf(d, step+i))
		if e != api.OK {
			panic("summed")
		}
		sum = s
	}
	return sum
}

func edgeOf(d api.Diagram, k int) int {
	if len(d.Signs) == 0 {
		return -1
	}
	return outgoing(d)[k%(2*len(d.Signs))]
}

func outgoing(d api.Diagram) []int {
	var list []int
	for h := range d.Mate {
		if diagram.Out(d, h) {
			list = append(list, h)
		}
	}
	return list
}

// samples lists valid diagrams, by names.
func samples() map[string]api.Diagram {
	return map[string]api.Diagram{
		"empty":               {},
		"empty slices":        diagramOf([]int{}, 0, []int{}...),
		"one loop":            loops(1),
		"MaxLoops":            loops(api.MaxLoops),
		"kink":                kink(),
		"negative kink":       negativeKink(),
		"kink and loops":      withLoops(kink(), 3),
		"Hopf link":           hopf(),
		"clasp":               withLoops(clasp(), 2),
		"trefoil":             trefoil(),
		"figure-eight knot":   figureEight(),
		"8_19":                drawnDowker(4, 8, -12, 2, -14, -16, -6, -10),
		"10_123":              drawnDowker(8, 10, 12, 14, 16, 18, 20, 2, 4, 6),
		"Borromean rings":     drawnText("U1-O6+U3+O5- O1-U2-O3+U4+ O2-U5-O4+U6+"),
		"chain of links":      drawnText("O1+U2+ U1+O2+O3-U4- U3-O4- *"),
		"curl on a clasp":     drawnText("O1+O3+U3+O2- U1+U2-"),
		"kink in a trefoil":   drawnText("O1+U2+O3+U1+O2+O4-U4-U3+"),
		"apart":               drawnText("O1+U2+O3+U1+O2+U3+ U4-O4- * *"),
		"parts alternate":     drawnText("O1+U3+O5+U1+O3+U5+ U2-O4-U6-O2-U4-O6- *"),
		"sums apart":          drawnText("O1+U1+O5+U5+ O3+U3+O4-U4-O2-U2- *"),
		"granny knot":         summed(1, trefoil(), trefoil()),
		"three trefoils":      summed(2, trefoil(), trefoil(), trefoil()),
		"sum of many":         summed(3, kink(), trefoil(), hopf(), negativeKink(), figureEight(), clasp(), trefoil()),
		"other sum of many":   summed(11, figureEight(), hopf(), kink(), twisted(5, -1), kink(), hopf(), negativeKink()),
		"odd twists":          twisted(63, 1),
		"even twists":         twisted(64, -1),
		"longest chain":       chain(api.MaxCrossings),
		"sum of many Hopfs":   summed(5, slices.Repeat([]api.Diagram{hopf()}, 32)...),
		"all limits":          withLoops(kinks(api.MaxCrossings), api.MaxLoops),
		"limits and one part": withLoops(summed(7, twisted(32, 1), twisted(32, -1)), api.MaxLoops),
	}
}

// everySmall visits all valid diagrams with n crossings and without loops: all
// signs, with all ways to mate outgoing with incoming half-edges.
func everySmall(n int, visit func(d api.Diagram)) {
	for bits := range 1 << n {
		d := api.Diagram{Mate: slices.Repeat([]int{-1}, 4*n)}
		for c := range n {
			d.Signs = append(d.Signs, 1-bits>>c&1*2)
		}
		leadsOut := func(h int) bool { return h%4 == 2 || h == diagram.Turn(h-h%4, d.Signs[h/4]) }
		var mateFrom func(h int)
		mateFrom = func(h int) {
			switch {
			case h == 4*n:
				if diagram.Valid(d) {
					visit(diagram.Clone(d))
				}
				return
			case d.Mate[h] >= 0:
				mateFrom(h + 1)
				return
			}
			for g := h + 1; g < 4*n; g++ {
				if d.Mate[g] < 0 && leadsOut(g) != leadsOut(h) {
					d.Mate[g], d.Mate[h] = h, g
					mateFrom(h + 1)
					d.Mate[g], d.Mate[h] = -1, -1
				}
			}
		}
		mateFrom(0)
	}
}

// everyDiagram visits the samples and all diagrams with up to three crossings,
// these with some loops.
func everyDiagram(visit func(d api.Diagram)) {
	for _, d := range samples() {
		visit(d)
	}
	for n := range 4 {
		everySmall(n, func(d api.Diagram) { visit(withLoops(d, n)) })
	}
}

// pairs visits all pairs of diagrams of few crossings in all, some with loops.
func pairs(visit func(a, b api.Diagram)) {
	for n := range 3 {
		everySmall(n, func(a api.Diagram) {
			for k := range 3 {
				everySmall(k, func(b api.Diagram) { visit(withLoops(a, k), withLoops(b, 2-n)) })
			}
		})
	}
}

// invalidDiagrams lists diagrams that are not valid.
func invalidDiagrams() []api.Diagram {
	return []api.Diagram{
		diagramOf([]int{1}, 0, 2, 3, 0, 1),
		diagramOf([]int{1}, 0, 3, 2, 1, 0),
		diagramOf([]int{0}, 0, 1, 0, 3, 2),
		diagramOf([]int{2}, 0, 1, 0, 3, 2),
		diagramOf([]int{1}, 0, 1, 0, 3),
		diagramOf([]int{1}, 0, 1, 0, 3, 4),
		diagramOf([]int{1}, 0, -1, 0, 3, 2),
		diagramOf([]int{1}, 0, 0, 1, 2, 3),
		diagramOf([]int{1}, 0),
		diagramOf(nil, 0, 1, 0),
		diagramOf([]int{1, 1}, 0, 6, 7, 5, 4, 3, 2, 0, 1),
		withLoops(kink(), -1),
		withLoops(kink(), api.MaxLoops+1),
		loops(-1),
		loops(math.MinInt),
		loops(api.MaxLoops + 1),
		loops(math.MaxInt),
		kinks(api.MaxCrossings + 1),
		kinks(100 * api.MaxCrossings),
	}
}
