package diagram_test

import (
	"math"
	"slices"
	"testing"

	"unravel/api"
	"unravel/diagram"
)

func TestRenumber(t *testing.T) {
	twoKinks := beside(kink(), negativeKink(), loops(3))
	for _, c := range []struct {
		d     api.Diagram
		order []int
		want  api.Diagram
	}{
		{api.Diagram{}, nil, api.Diagram{}},
		{api.Diagram{}, []int{}, api.Diagram{}},
		{loops(7), nil, loops(7)},
		{kink(), []int{0}, kink()},
		{trefoil(), []int{0, 1, 2}, trefoil()},
		{trefoil(), []int{2, 0, 1}, trefoil()},
		{trefoil(), []int{1, 0, 2}, api.Diagram{Signs: []int{1, 1, 1}, Mate: []int{5, 8, 11, 6, 9, 0, 3, 10, 1, 4, 7, 2}}},
		{twoKinks, []int{0, 1}, twoKinks},
		{twoKinks, []int{1, 0}, beside(negativeKink(), kink(), loops(3))},
		{beside(trefoil(), kink()), []int{3, 0, 1, 2}, beside(kink(), trefoil())},
		{beside(trefoil(), negativeKink(), kink()), []int{4, 3, 0, 1, 2}, beside(kink(), negativeKink(), trefoil())},
		// an order that is not its own inverse
		{beside(kink(), negativeKink(), negativeKink()), []int{1, 2, 0}, beside(negativeKink(), negativeKink(), kink())},
	} {
		got, e := diagram.Renumber(c.d, c.order)
		if e != api.OK || !diagram.Equal(got, c.want) {
			t.Errorf("Renumber(%v, %v) is %v, %d", c.d, c.order, got, e)
		}
	}
}

// Each half-edge keeps its slot and its mate, at the new numbers of the crossings.
func TestRenumberByDefinition(t *testing.T) {
	for name, d := range valid() {
		for _, order := range orders(len(d.Signs)) {
			got, e := diagram.Renumber(d, order)
			if e != api.OK || got.Loops != d.Loops || len(got.Signs) != len(d.Signs) || len(got.Mate) != len(d.Mate) {
				t.Errorf("%s, %v: %v, %d", name, order, got, e)
				continue
			}
			for h, mate := range got.Mate {
				if got.Signs[h/4] != d.Signs[order[h/4]] || 4*order[mate/4]+mate%4 != d.Mate[4*order[h/4]+h%4] {
					t.Errorf("%s, %v: half-edge %d has the mate %d", name, order, h, mate)
				}
			}
		}
	}
}

func TestRenumberErrors(t *testing.T) {
	for name, d := range invalid() {
		for _, order := range [][]int{nil, {0}, {1, 0}, {5, 5}, {-1}, orders(len(d.Signs))[0]} {
			if got, e := diagram.Renumber(d, order); e != api.ErrArg || !diagram.Equal(got, api.Diagram{}) {
				t.Errorf("%s, %v: %v, %d", name, order, got, e)
			}
		}
	}
	for _, c := range []struct {
		d      api.Diagram
		orders [][]int
	}{
		{api.Diagram{}, [][]int{{0}, {-1}, {0, 1}}},
		{loops(2), [][]int{{0}, {0, 1}}},
		{kink(), [][]int{nil, {}, {1}, {-1}, {0, 0}, {0, 1}, {math.MinInt}, {math.MaxInt}}},
		{trefoil(), [][]int{nil, {0}, {0, 1}, {0, 1, 1}, {0, 0, 1}, {2, 2, 2}, {0, 1, 3}, {1, 2, 3}, {0, -1, 2},
			{-1, 0, 1}, {0, 1, 2, 3}, {0, 1, 2, 0}, {0, 1, 2, 2}, {0, 1, math.MaxInt}, {math.MinInt, 1, 2}}},
		{beside(kinks(api.MaxCrossings), loops(1)), [][]int{slices.Repeat([]int{0}, api.MaxCrossings), make([]int, 10000)}},
	} {
		for _, order := range c.orders {
			if got, e := diagram.Renumber(c.d, order); e != api.ErrRange || !diagram.Equal(got, api.Diagram{}) {
				t.Errorf("%v, %v: %v, %d", c.d, order, got, e)
			}
		}
	}
}

func TestRenumberSharesNoMemory(t *testing.T) {
	d, order := figureEight(), []int{3, 0, 2, 1}
	got, _ := diagram.Renumber(d, order)
	overwrite(got.Signs)
	overwrite(got.Mate)
	if !diagram.Equal(d, figureEight()) || !slices.Equal(order, []int{3, 0, 2, 1}) {
		t.Error("the result shares memory with an argument")
	}
}

// orders lists some permutations of 0 to n - 1, the first of which moves nothing.
func orders(n int) [][]int {
	var all [][]int
	for _, step := range []int{1, 3, 5, 7} {
		if gcd(step, n) != 1 {
			continue
		}
		for _, shift := range []int{0, 1, n / 2} {
			order := make([]int, n)
			for i := range n {
				order[i] = (step*i + shift) % n
			}
			all = append(all, order)
		}
	}
	return all
}

func gcd(a, b int) int {
	if b == 0 {
		return a
	}
	return gcd(b, a%b)
}
