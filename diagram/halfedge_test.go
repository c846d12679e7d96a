package diagram_test

import (
	"math"
	"slices"
	"testing"

	"unravel/api"
	"unravel/diagram"
)

func TestTurn(t *testing.T) {
	for _, c := range []struct{ h, by, want int }{
		{0, 0, 0}, {0, 1, 1}, {0, 2, 2}, {0, 3, 3}, {0, 4, 0}, {0, -1, 3}, {0, -4, 0}, {0, -5, 3},
		{3, 1, 0}, {4, -1, 7}, {5, -2, 7}, {6, 10, 4}, {7, 1, 4}, {255, 1, 252}, {255, -3, 252},
		{1, math.MaxInt, 0}, {1, math.MaxInt - 3, 1}, {1, math.MinInt, 1}, {1, math.MinInt + 1, 2},
		{math.MaxInt, 0, math.MaxInt}, {math.MaxInt, 1, math.MaxInt - 3}, {math.MaxInt - 3, -1, math.MaxInt},
		{math.MaxInt, math.MaxInt, math.MaxInt - 1}, {math.MaxInt, math.MinInt, math.MaxInt},
		{-1, 0, -1}, {-1, 1, -1}, {-2, 2, -1}, {-4, 100, -1}, {math.MinInt, math.MaxInt, -1},
	} {
		if got := diagram.Turn(c.h, c.by); got != c.want {
			t.Errorf("Turn(%d, %d) is %d, not %d", c.h, c.by, got, c.want)
		}
	}
}

func TestOpposite(t *testing.T) {
	for _, c := range []struct{ h, want int }{
		{0, 2}, {1, 3}, {2, 0}, {3, 1}, {4, 6}, {9, 11}, {254, 252},
		{math.MaxInt, math.MaxInt - 2}, {-1, -1}, {-3, -1}, {math.MinInt, -1},
	} {
		if got := diagram.Opposite(c.h); got != c.want {
			t.Errorf("Opposite(%d) is %d, not %d", c.h, got, c.want)
		}
	}
}

func TestOut(t *testing.T) {
	for _, c := range []struct {
		d   api.Diagram
		out []int
	}{
		{kink(), []int{1, 2}},
		{negativeKink(), []int{2, 3}},
		{trefoil(), []int{1, 2, 5, 6, 9, 10}},
		{figureEight(), []int{1, 2, 6, 7, 10, 11, 13, 14}},
		{beside(negativeKink(), loops(2), kink()), []int{2, 3, 5, 6}},
		{api.Diagram{}, nil},
		{loops(3), nil},
	} {
		for h := -5; h < len(c.d.Mate)+5; h++ {
			if diagram.Out(c.d, h) != slices.Contains(c.out, h) {
				t.Errorf("%v: wrong Out of %d", c.d, h)
			}
		}
		if diagram.Out(c.d, math.MinInt) || diagram.Out(c.d, math.MaxInt) {
			t.Errorf("%v: an extreme number is a half-edge", c.d)
		}
	}
	for name, d := range invalid() {
		for h := -1; h < 4*len(d.Signs)+1; h++ {
			if diagram.Out(d, h) {
				t.Errorf("%s: Out of %d", name, h)
			}
		}
	}
}
