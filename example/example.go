// Package example draws link diagrams for the tests of the layers. It panics
// where a test asks for a diagram that cannot be drawn.
package example

import (
	"math"
	"slices"

	"unravel/api"
	"unravel/diagram"
	"unravel/dowker"
	"unravel/gauss"
)

func Of(signs []int, loops int, mate ...int) api.Diagram {
	return api.Diagram{Signs: signs, Mate: mate, Loops: loops}
}

func Loops(n int) api.Diagram { return api.Diagram{Loops: n} }

func WithLoops(d api.Diagram, n int) api.Diagram {
	d.Loops = n
	return d
}

func IsZero(d api.Diagram) bool { return diagram.Equal(d, api.Diagram{}) }

func Drawn(c gauss.Code) api.Diagram {
	d, e := gauss.Diagram(c)
	if e != api.OK {
		panic("not a Gauss code of a diagram")
	}
	return d
}

func Gauss(text string) api.Diagram {
	c, e := gauss.Parse(text)
	if e != api.OK {
		panic(text)
	}
	return Drawn(c)
}

func Dowker(code ...int) api.Diagram {
	d, e := dowker.Diagram(code)
	if e != api.OK {
		panic("not a Dowker code of a diagram")
	}
	return d
}

func Kink() api.Diagram { return Of([]int{1}, 0, 1, 0, 3, 2) }

func NegativeKink() api.Diagram { return Of([]int{-1}, 0, 3, 2, 1, 0) }

// Circles is two circles, one over the other; sign is that of the crossing 0.
func Circles(sign int) api.Diagram {
	return Of([]int{sign, -sign}, 0, 6, 5, 4, 7, 2, 1, 0, 3)
}

func Hopf() api.Diagram { return Of([]int{1, 1}, 0, 5, 4, 7, 6, 1, 0, 3, 2) }

func Trefoil() api.Diagram {
	return Of([]int{1, 1, 1}, 0, 9, 4, 7, 10, 1, 8, 11, 2, 5, 0, 3, 6)
}

func FigureEight() api.Diagram {
	return Of([]int{1, -1, -1, 1}, 0, 11, 4, 15, 14, 1, 10, 9, 12, 13, 6, 5, 0, 7, 8, 3, 2)
}

func Borromean() api.Diagram {
	return Gauss("U1-O6+U3+O5- O1-U2-O3+U4+ O2-U5-O4+U6+")
}

// Triangle is the closure of the braid 1 2 1 on three strands.
func Triangle() api.Diagram {
	return Of([]int{1, 1, 1}, 0, 9, 7, 11, 10, 5, 4, 8, 1, 6, 0, 3, 2)
}

// Twisted is the closure of the braid on two strands with n crossings of one sign.
func Twisted(n, sign int) api.Diagram {
	d := api.Diagram{Signs: slices.Repeat([]int{sign}, n), Mate: make([]int, 4*n)}
	join := func(out, in int) { d.Mate[out], d.Mate[in] = in, out }
	for c := range n {
		next := 4 * ((c + 1) % n)
		join(diagram.Turn(4*c, sign), next)
		join(4*c+2, diagram.Turn(next, -sign))
	}
	return d
}

// Kinks is n crossings of the sign 1, each a graph component of its own.
func Kinks(n int) api.Diagram {
	d := api.Diagram{Signs: slices.Repeat([]int{1}, n)}
	for h := range 4 * n {
		d.Mate = append(d.Mate, h^1)
	}
	return d
}

// Chain is one strand with n kinks of the sign 1.
func Chain(n int) api.Diagram {
	c := gauss.Code{Comps: make([][]gauss.Visit, 1), Signs: slices.Repeat([]int{1}, n)}
	for k := range n {
		c.Comps[0] = append(c.Comps[0], gauss.Visit{Crossing: k, Over: true}, gauss.Visit{Crossing: k})
	}
	return Drawn(c)
}

// Stack is n + 1 circles that lie upon one another, each over a part of the next.
func Stack(n int) api.Diagram {
	c := gauss.Code{Comps: make([][]gauss.Visit, n+1)}
	for k := range n {
		c.Signs = append(c.Signs, 1, -1)
		first, second := gauss.Visit{Crossing: 2 * k}, gauss.Visit{Crossing: 2*k + 1}
		c.Comps[k+1] = append(c.Comps[k+1], second, first)
		first.Over, second.Over = true, true
		c.Comps[k] = append(c.Comps[k], first, second)
	}
	return Drawn(c)
}

// Small lists valid diagrams with at most ten crossings, by names.
func Small() map[string]api.Diagram {
	return map[string]api.Diagram{
		"empty":             {},
		"empty slices":      {Signs: []int{}, Mate: []int{}},
		"one loop":          Loops(1),
		"two loops":         Loops(2),
		"kink":              Kink(),
		"negative kink":     NegativeKink(),
		"kink and loops":    WithLoops(Kink(), 3),
		"kinks and loops":   WithLoops(Kinks(3), 3),
		"chain":             Chain(4),
		"circles":           WithLoops(Circles(1), 2),
		"Hopf link":         Hopf(),
		"negative Hopf":     Of([]int{-1, -1}, 0, 7, 6, 5, 4, 3, 2, 1, 0),
		"trefoil":           Trefoil(),
		"left trefoil":      Of([]int{-1, -1, -1}, 0, 11, 10, 5, 4, 3, 2, 9, 8, 7, 6, 1, 0),
		"figure-eight knot": FigureEight(),
		"8_19":              Dowker(4, 8, -12, 2, -14, -16, -6, -10),
		"10_123":            Dowker(8, 10, 12, 14, 16, 18, 20, 2, 4, 6),
		"Borromean rings":   Borromean(),
		"chain of links":    Gauss("O1+U2+ U1+O2+O3-U4- U3-O4- *"),
		"curl on a circle":  Gauss("O1+O3+U3+O2- U1+U2-"),
		"kink in a trefoil": Gauss("O1+U2+O3+U1+O2+O4-U4-U3+"),
		"over itself":       Gauss("O1+O2-U2-U1+"),
		"apart":             Gauss("O1+U2+O3+U1+O2+U3+ U4-O4- * *"),
		"parts alternate":   Gauss("O1+U3+O5+U1+O3+U5+ U2-O4-U6-O2-U4-O6- *"),
		"sums apart":        Gauss("O1+U1+O5+U5+ O3+U3+O4-U4-O2-U2- *"),
		"triangle":          WithLoops(Triangle(), 1),
		"three circles":     Gauss("O1+O6+O3-O5- U1+O2+U3-O4- U2+U5-U4-U6+"),
	}
}

// Large lists valid diagrams at the limits or near them, by names.
func Large() map[string]api.Diagram {
	return map[string]api.Diagram{
		"MaxLoops":          Loops(api.MaxLoops),
		"kink and MaxLoops": WithLoops(Kink(), api.MaxLoops),
		"Hopf and MaxLoops": WithLoops(Hopf(), api.MaxLoops),
		"odd twists":        Twisted(api.MaxCrossings-1, 1),
		"even twists":       Twisted(api.MaxCrossings, 1),
		"negative twists":   Twisted(api.MaxCrossings, -1),
		"fewer twists":      WithLoops(Twisted(api.MaxCrossings-2, 1), 1),
		"longest chain":     Chain(api.MaxCrossings),
		"shorter chain":     WithLoops(Chain(api.MaxCrossings-1), api.MaxLoops),
		"stack of circles":  Stack(api.MaxCrossings / 2),
		"all limits":        WithLoops(Kinks(api.MaxCrossings), api.MaxLoops),
	}
}

// Invalid lists diagrams that are not valid.
func Invalid() []api.Diagram {
	return []api.Diagram{
		Of([]int{1}, 0, 2, 3, 0, 1),
		Of([]int{1}, 0, 3, 2, 1, 0),
		Of([]int{1}, 0, 3, 2, 1, -1),
		Of([]int{-1}, 0, 1, 0, 3, 2),
		Of([]int{0}, 0, 1, 0, 3, 2),
		Of([]int{2}, 0, 1, 0, 3, 2),
		Of([]int{1}, 0, 1, 0, 3),
		Of([]int{1}, 0, 1, 0, 3, 4),
		Of([]int{1}, 0, 1, 0, 3, 2, 5, 4, 7, 6),
		Of([]int{1}, 0, -1, 0, 3, 2),
		Of([]int{1}, 0, 0, 1, 2, 3),
		Of([]int{1}, 0),
		Of(nil, 0, 1, 0),
		Of([]int{1, 1}, 0, 6, 7, 5, 4, 3, 2, 0, 1),
		Of([]int{1, 1, 1, 1}, 0, 9, 4, 7, 10, 1, 8, 11, 2, 5, 0, 3, 6, 14, 15, 12, 13),
		WithLoops(Kink(), -1),
		WithLoops(Kink(), api.MaxLoops+1),
		WithLoops(Trefoil(), -1),
		Loops(-1),
		Loops(math.MinInt),
		Loops(api.MaxLoops + 1),
		Loops(math.MaxInt),
		Kinks(api.MaxCrossings + 1),
		Kinks(100 * api.MaxCrossings),
		Twisted(api.MaxCrossings+1, 1),
		Twisted(100*api.MaxCrossings, -1),
	}
}

// Extremes lists numbers at and beyond the limits.
func Extremes() []int {
	return []int{math.MinInt, math.MinInt + 1, -1 << 32, -257, -256, -65, -3, -2, -1, 0, 1, 2, 3, 4, 7, 8, 63, 64, 65,
		255, 256, 1 << 32, 1<<61 + 1, math.MaxInt - 1, math.MaxInt}
}

// Strange lists diagrams with extreme numbers in all places, few of them valid.
func Strange() []api.Diagram {
	list := []api.Diagram{Of(make([]int, 1<<16), 0, make([]int, 1<<18)...)}
	for _, n := range Extremes() {
		list = append(list, Loops(n), Of([]int{n}, 0))
		for _, k := range Extremes() {
			list = append(list, Of([]int{1}, 0, n, k, 3, 2), Of([]int{n}, k, 1, 0, 3, 2), Of([]int{n}, k, 3, 2, 1, 0), Of(nil, k, n))
		}
		for h := range 12 {
			d := Trefoil()
			d.Mate[h] = n
			list = append(list, d)
		}
	}
	return list
}

// EverySmall visits all valid diagrams with n crossings and without loops: all
// signs, with all ways to mate outgoing with incoming half-edges.
func EverySmall(n int, visit func(d api.Diagram)) {
	for bits := range 1 << n {
		d := api.Diagram{Mate: make([]int, 4*n)}
		var outgoing, incoming []int
		for c := range n {
			sign := 1 - bits>>c&1*2
			d.Signs = append(d.Signs, sign)
			outgoing = append(outgoing, 4*c+2, 4*c+2-sign)
			incoming = append(incoming, 4*c, 4*c+2+sign)
		}
		everyMating(d, outgoing, incoming, visit)
	}
}

func everyMating(d api.Diagram, outgoing, incoming []int, visit func(d api.Diagram)) {
	if len(outgoing) == 0 {
		if diagram.Valid(d) {
			visit(diagram.Clone(d))
		}
		return
	}
	for i, in := range incoming {
		d.Mate[outgoing[0]], d.Mate[in] = in, outgoing[0]
		everyMating(d, outgoing[1:], slices.Concat(incoming[:i], incoming[i+1:]), visit)
	}
}

// Overwrite changes all the memory that can be reached through a slice. It
// reports whether some other slice has changed it before.
func Overwrite(list []int) bool {
	const mark = 77
	list = list[:cap(list)]
	isShared := slices.Contains(list, mark)
	for i := range list {
		list[i] = mark
	}
	return isShared
}
