package canon_test

import (
	"testing"

	"unravel/api"
	"unravel/canon"
	"unravel/diagram"
)

func TestSymmetries(t *testing.T) {
	for name, s := range samples() {
		if n := canon.Symmetries(s.d); n != s.symmetries {
			t.Errorf("%s: %d symmetries, not %d", name, n, s.symmetries)
		}
	}
	for _, c := range []struct {
		name string
		d    api.Diagram
		want int
	}{
		{"Borromean rings", closure(3, 1, -2, 1, -2, 1, -2), 3},
		{"MaxCrossings", twisted(api.MaxCrossings, 1), api.MaxCrossings},
		{"one switched", larger()["MaxCrossings, one odd"], 1},
		{"woven", larger()["MaxCrossings, woven"], api.MaxCrossings / 2},
		{"two halves", larger()["sixteen, two symmetric"], 2},
		{"two figure-eight knots", copies(2, figureEight()), 2 * 2 * 2},
		{"both trefoils", beside(trefoil(), twisted(3, -1)), 9},
		{"equal ones between others", beside(kink(), trefoil(), negativeKink(), trefoil(), kink(), kink()), 3 * 2 * 1 * 3 * 3 * 2},
		{"equal numbers of equal ones", beside(kink(), negativeKink(), kink(), negativeKink()), 4},
		{"fourteen kinks", copies(14, kink()), 87178291200},
		{"fourteen negative kinks", copies(14, negativeKink()), 87178291200},
		{"ten trefoils", copies(10, trefoil()), 59049 * 3628800},
		{"fourteen kinks and twelve twists", beside(copies(14, kink()), twisted(12, 1)), 12 * 87178291200},
		{"twelve twists and fourteen kinks", beside(twisted(12, -1), copies(14, kink()), loops(3)), 12 * 87178291200},
	} {
		if n := canon.Symmetries(c.d); n != c.want {
			t.Errorf("%s: %d symmetries, not %d", c.name, n, c.want)
		}
	}
}

func TestTooManySymmetries(t *testing.T) {
	for name, d := range map[string]api.Diagram{
		"fourteen kinks and thirteen twists": beside(copies(14, kink()), twisted(13, 1)),
		"fifteen kinks":                      copies(15, kink()),
		"twenty-one kinks":                   copies(21, kink()),
		"MaxCrossings kinks":                 copies(api.MaxCrossings, kink()),
		"kinks of both signs":                beside(copies(32, kink()), copies(32, negativeKink())),
		"eleven trefoils":                    copies(11, trefoil()),
		"twenty-one trefoils":                copies(21, trefoil()),
		"Hopf links":                         copies(32, twisted(2, 1)),
		"many and one more":                  beside(copies(40, kink()), twisted(24, 1)),
		"many and then few":                  beside(copies(40, kink()), closure(2, 1, 1, -1)),
	} {
		if n := canon.Symmetries(d); n != 1<<40 {
			t.Errorf("%s: %d symmetries", name, n)
		}
	}
}

// compareSymmetries counts the orders that change nothing.
func compareSymmetries(t *testing.T, d api.Diagram) {
	t.Helper()
	count := 0
	everyOrder(len(d.Signs), func(order []int) {
		if diagram.Equal(renumbered(d, order), d) {
			count++
		}
	})
	if n := canon.Symmetries(d); n != count {
		t.Fatalf("%v: %d symmetries, not %d", d, n, count)
	}
}

func TestSymmetriesAreCounted(t *testing.T) {
	for _, d := range everyDiagram() {
		if len(d.Signs) <= 7 {
			compareSymmetries(t, d)
		}
	}
	for n := range 4 {
		everySmall(n, func(d api.Diagram) {
			d.Loops = n
			compareSymmetries(t, d)
		})
	}
	compareSymmetries(t, copies(6, kink()))
	compareSymmetries(t, beside(copies(3, kink()), copies(3, negativeKink())))
	compareSymmetries(t, beside(twisted(2, 1), kink(), twisted(2, 1), kink()))
}

func TestInvalidDiagramsHaveNoSymmetries(t *testing.T) {
	for _, d := range invalidDiagrams() {
		if n := canon.Symmetries(d); n != 0 {
			t.Errorf("%v: %d symmetries", d, n)
		}
	}
}
