package canon_test

import (
	"slices"
	"testing"

	"unravel/api"
	"unravel/canon"
	"unravel/diagram"
	"unravel/example"
)

func TestForm(t *testing.T) {
	for _, c := range []struct{ d, want api.Diagram }{
		{api.Diagram{}, api.Diagram{}},
		{example.Loops(5), example.Loops(5)},
		{example.Kink(), example.Kink()},
		{beside(example.Kink(), example.NegativeKink(), example.Loops(2)), beside(example.NegativeKink(), example.Kink(), example.Loops(2))},
		{beside(twisted(2, -1), example.Kink()), beside(example.Kink(), twisted(2, -1))},
		{example.Trefoil(), example.Of([]int{1, 1, 1}, 0, 5, 8, 11, 6, 9, 0, 3, 10, 1, 4, 7, 2)},
		{beside(example.Trefoil(), example.Kink()),
			example.Of([]int{1, 1, 1, 1}, 0, 1, 0, 3, 2, 9, 12, 15, 10, 13, 4, 7, 14, 5, 8, 11, 6)},
		{example.FigureEight(), example.Of([]int{-1, 1, -1, 1}, 0, 5, 10, 9, 12, 11, 0, 15, 14, 13, 2, 1, 4, 3, 8, 7, 6)},
		{closure(2, 1, 1, -1), example.Of([]int{-1, 1, 1}, 0, 6, 5, 8, 11, 9, 1, 0, 10, 2, 4, 7, 3)},
	} {
		if form, e := canon.Form(c.d); e != api.OK || !diagram.Equal(form, c.want) {
			t.Errorf("%v: the form %v, %d, not %v", c.d, form, e, c.want)
		}
	}
}

func TestInvalidDiagramsHaveNoForm(t *testing.T) {
	for _, d := range example.Invalid() {
		if form, e := canon.Form(d); e != api.ErrArg || !example.IsZero(form) {
			t.Errorf("%v: the form %v, %d", d, form, e)
		}
	}
}

// described is the diagram that a code describes.
func described(code []int) api.Diagram {
	d := api.Diagram{Loops: code[0]}
	rest := code[2:]
	for range code[1] {
		crossings, first := rest[0], len(d.Mate)
		rest = rest[1:]
		for range crossings {
			d.Signs = append(d.Signs, rest[0])
			for _, mate := range rest[1:5] {
				d.Mate = append(d.Mate, first+mate)
			}
			rest = rest[5:]
		}
	}
	return d
}

func TestCodesDescribeForms(t *testing.T) {
	for name, d := range everyDiagram() {
		form, e := canon.Form(d)
		if want := described(canon.Code(d)); e != api.OK || !diagram.Equal(form, want) {
			t.Errorf("%s: the form %v, %d, not %v", name, form, e, want)
		}
	}
}

// TestFormsAreRenumberings looks for the order of the crossings among all.
func TestFormsAreRenumberings(t *testing.T) {
	for name, d := range everyDiagram() {
		if len(d.Signs) > 7 {
			continue
		}
		form, _ := canon.Form(d)
		found := false
		everyOrder(len(d.Signs), func(order []int) {
			found = found || diagram.Equal(form, renumbered(d, order))
		})
		if !found {
			t.Errorf("%s: the form %v is not that of %v", name, form, d)
		}
	}
}

// TestFormsAreTheLeastOnes takes diagrams with one graph component: their forms
// have the least code of all renumberings whose crossings appear in the order of
// their numbers.
func TestFormsAreTheLeastOnes(t *testing.T) {
	check := func(d api.Diagram) {
		t.Helper()
		var least api.Diagram
		var leastRows []int
		everyOrder(len(d.Signs), func(order []int) {
			r := renumbered(d, order)
			if rows := rowsOf(r); appearInOrder(r) && (leastRows == nil || less(rows, leastRows)) {
				least, leastRows = r, rows
			}
		})
		if form, e := canon.Form(d); e != api.OK || !diagram.Equal(form, least) {
			t.Fatalf("%v: the form %v, %d, not %v", d, form, e, least)
		}
	}
	for _, d := range everyDiagram() {
		if len(d.Signs) <= 7 && len(diagram.Graph(d)) == 1 {
			check(d)
		}
	}
	example.EverySmall(3, func(d api.Diagram) {
		if len(diagram.Graph(d)) == 1 {
			check(d)
		}
	})
}

// rowsOf lists the signs and the mates of each crossing.
func rowsOf(d api.Diagram) []int {
	var rows []int
	for c, sign := range d.Signs {
		rows = append(append(rows, sign), d.Mate[4*c:4*c+4]...)
	}
	return rows
}

func appearInOrder(d api.Diagram) bool {
	appeared := []int{0}
	for _, mate := range d.Mate {
		if !slices.Contains(appeared, mate/4) {
			appeared = append(appeared, mate/4)
		}
	}
	return slices.IsSorted(appeared)
}
