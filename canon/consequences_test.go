package canon_test

import (
	"slices"
	"testing"

	"unravel/api"
	"unravel/canon"
	"unravel/diagram"
	"unravel/example"
)

func TestSame(t *testing.T) {
	different := []api.Diagram{
		{},
		example.Loops(1),
		example.Kink(),
		example.NegativeKink(),
		beside(example.Kink(), example.Loops(1)),
		copies(2, example.Kink()),
		beside(example.Kink(), example.NegativeKink()),
		copies(2, example.NegativeKink()),
		twisted(2, 1),
		twisted(2, -1),
		closure(2, 1, -1),
		example.Trefoil(),
		reflected(example.Trefoil()),
		closure(2, 1, 1, -1),
		beside(example.Trefoil(), example.Loops(1)),
		beside(example.Trefoil(), example.Kink()),
		beside(example.Trefoil(), example.NegativeKink()),
		copies(2, example.Trefoil()),
		beside(example.Trefoil(), reflected(example.Trefoil())),
		example.FigureEight(),
		closure(3, 1, 1, 1, -2, 1, -2),
		closure(3, -1, -1, -1, 2, -1, 2),
		twisted(api.MaxCrossings, 1),
		twisted(api.MaxCrossings, -1),
		larger()["MaxCrossings, one odd"],
	}
	for i, a := range different {
		for k, b := range different {
			for _, order := range orders(len(b.Signs)) {
				if canon.Same(a, renumbered(b, order)) != (i == k) {
					t.Errorf("%v and %v by %v: not %t", a, b, order, i == k)
				}
			}
		}
	}
}

func TestInvalidDiagramsAreNeverTheSame(t *testing.T) {
	for _, a := range example.Invalid() {
		for _, b := range append(example.Invalid(), a, api.Diagram{}, example.Kink(), example.Trefoil()) {
			if canon.Same(a, b) || canon.Same(b, a) {
				t.Errorf("%v and %v are the same", a, b)
			}
		}
	}
}

// TestSomeDiagramsAreTheirOwnImages: reversing does not change a closed braid on
// two strands, and reflecting it does.
func TestSomeDiagramsAreTheirOwnImages(t *testing.T) {
	for _, d := range []api.Diagram{twisted(2, 1), example.Trefoil(), twisted(5, -1), twisted(api.MaxCrossings, 1)} {
		if !canon.Same(d, reversed(d)) || canon.Same(d, reflected(d)) {
			t.Errorf("%v: wrong images", d)
		}
	}
}

// TestIsomorphicDiagrams: a diagram that is renumbered has the same code, form,
// and symmetries, and the form is its own form.
func TestIsomorphicDiagrams(t *testing.T) {
	for name, d := range everyDiagram() {
		form, _ := canon.Form(d)
		for _, order := range append(orders(len(d.Signs)), partsBackwards(d)) {
			r := renumbered(d, order)
			other, e := canon.Form(r)
			if !canon.Same(d, r) || !slices.Equal(canon.Code(d), canon.Code(r)) || canon.Key(d) != canon.Key(r) {
				t.Errorf("%s: the code changes by %v", name, order)
			}
			if e != api.OK || !diagram.Equal(form, other) || canon.Symmetries(r) != canon.Symmetries(d) {
				t.Errorf("%s: the form or its symmetries change by %v", name, order)
			}
		}
		again, e := canon.Form(form)
		if e != api.OK || !diagram.Equal(form, again) || !canon.Same(form, d) || !diagram.Valid(form) {
			t.Errorf("%s: the form %v has the form %v, %d", name, form, again, e)
		}
	}
}

// partsBackwards numbers the graph components in descending order.
func partsBackwards(d api.Diagram) []int {
	var order []int
	for _, crossings := range slices.Backward(diagram.Graph(d)) {
		order = append(order, crossings...)
	}
	return order
}

// TestSameOnlyIfIsomorphic compares the classes of all small diagrams with those
// under all renumberings.
func TestSameOnlyIfIsomorphic(t *testing.T) {
	for n := range 4 {
		keyOf, nameOf := map[string]string{}, map[string]string{}
		example.EverySmall(n, func(d api.Diagram) {
			name, key := leastText(d), canon.Key(d)
			if k, met := keyOf[name]; met && k != key {
				t.Fatalf("%v: the keys %q and %q", d, k, key)
			}
			if m, met := nameOf[key]; met && m != name {
				t.Fatalf("%v: also other diagrams have the key %q", d, key)
			}
			keyOf[name], nameOf[key] = key, name
		})
	}
}

// leastText is the same exactly for isomorphic diagrams.
func leastText(d api.Diagram) string {
	least := ""
	everyOrder(len(d.Signs), func(order []int) {
		var text []byte
		for _, number := range rowsOf(renumbered(d, order)) {
			text = append(text, byte(number+2))
		}
		if least == "" || string(text) < least {
			least = string(text)
		}
	})
	return least
}

// TestNumbersOfDiagrams: each form stands for as many diagrams as there are
// orders, divided by its symmetries.
func TestNumbersOfDiagrams(t *testing.T) {
	orders := 1
	for n, want := range []int{1, 2, 24, 656, 30112} {
		forms, count, sum := map[string]int{}, 0, 0
		example.EverySmall(n, func(d api.Diagram) {
			forms[canon.Key(d)] = canon.Symmetries(d)
			count++
		})
		orders *= max(n, 1)
		for _, symmetries := range forms {
			sum += orders / symmetries
		}
		if sum != count || count != want {
			t.Errorf("%d crossings: %d diagrams, but %d by the symmetries of %d forms", n, count, sum, len(forms))
		}
	}
}
