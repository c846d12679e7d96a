package diagram_test

import (
	"math"
	"slices"
	"testing"

	"unravel/api"
	"unravel/diagram"
)

var extremes = []int{math.MinInt, math.MinInt + 1, -1 << 32, -256, -5, -4, -3, -2, -1,
	1 << 20, 1 << 32, math.MaxInt - 1, math.MaxInt}

// callAll calls every function with the diagram. Panics fail the test, and so
// does a call that runs on, by the time limit of go test.
func callAll(t *testing.T, d api.Diagram) {
	t.Helper()
	defer func() {
		if p := recover(); p != nil {
			t.Errorf("%v: panic: %v", d, p)
		}
	}()
	before := api.Diagram{Signs: slices.Clone(d.Signs), Mate: slices.Clone(d.Mate), Loops: d.Loops}
	isValid := diagram.Valid(d)
	for _, h := range append([]int{0, 1, 2, 3, 4, 5, len(d.Mate) - 1, len(d.Mate)}, extremes...) {
		isHalfEdge := isValid && 0 <= h && h < len(d.Mate)
		if face := diagram.Face(d, h); len(face) > 0 != isHalfEdge {
			t.Errorf("%v: face %v of %d", d, face, h)
		}
		if diagram.Out(d, h) && !isHalfEdge {
			t.Errorf("%v: Out of %d", d, h)
		}
	}
	if !isValid && len(diagram.Faces(d))+len(diagram.Strands(d))+len(diagram.Graph(d))+diagram.Components(d) != 0 {
		t.Errorf("%v: something of an invalid diagram", d)
	}
	for _, order := range [][]int{nil, {0}, {1, 0}, {0, 0}, extremes, orders(len(d.Signs))[0]} {
		r, e := diagram.Renumber(d, order)
		if !isValid && e != api.ErrArg || e != api.OK && !diagram.Equal(r, api.Diagram{}) {
			t.Errorf("%v: Renumber by %v: %v, %d", d, order, r, e)
		}
	}
	if c := diagram.Clone(d); !diagram.Equal(c, d) || !diagram.Equal(d, before) {
		t.Errorf("%v: the clone differs, or a call changed the diagram", d)
	}
}

func TestNoArgumentPanics(t *testing.T) {
	for _, list := range []map[string]api.Diagram{valid(), invalid()} {
		for _, d := range list {
			callAll(t, d)
		}
	}
	for _, n := range extremes {
		for _, k := range extremes {
			diagram.Turn(n, k)
			callAll(t, api.Diagram{Signs: []int{n}, Mate: []int{k, n, 1, 0}, Loops: n})
			callAll(t, api.Diagram{Signs: []int{1}, Mate: []int{k, n, 1, 0}})
			callAll(t, api.Diagram{Mate: []int{n, k}})
		}
		diagram.Opposite(n)
		callAll(t, loops(n))
		callAll(t, api.Diagram{Signs: []int{n}})
	}
	callAll(t, api.Diagram{Signs: make([]int, 100000), Mate: make([]int, 400000)})
	callAll(t, api.Diagram{Signs: slices.Repeat([]int{1}, 64), Mate: make([]int, 256)})
}

// Each mate of some diagrams is changed to each other number, with and without
// its mate following.
func TestNoChangedMatePanics(t *testing.T) {
	for _, d := range []api.Diagram{kink(), negativeKink(), trefoil(), twisted(2, -1), mixed()} {
		numbers := slices.Clone(extremes)
		for h := range len(d.Mate) + 4 {
			numbers = append(numbers, h)
		}
		for h := range d.Mate {
			for _, n := range numbers {
				c := diagram.Clone(d)
				c.Mate[h] = n
				callAll(t, c)
				if 0 <= n && n < len(d.Mate) {
					c.Mate[n] = h
					callAll(t, c)
				}
			}
		}
	}
}

// Two edges of some diagrams exchange their ends: all half-edges stay paired.
func TestNoExchangedEdgesPanic(t *testing.T) {
	for _, d := range []api.Diagram{trefoil(), figureEight(), borromean(), mixed(), kinks(4)} {
		for g := range d.Mate {
			for h := range d.Mate {
				if h == g || h == d.Mate[g] {
					continue
				}
				c := diagram.Clone(d)
				join(c, g, h)
				join(c, d.Mate[g], d.Mate[h])
				callAll(t, c)
				if diagram.Valid(c) != (directed(c) && eulerCharacteristicOfSpheres(c)) {
					t.Errorf("%v: wrong Valid", c)
				}
			}
		}
	}
}
