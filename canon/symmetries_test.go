package canon_test

import (
	"testing"

	"unravel/api"
	"unravel/canon"
	"unravel/diagram"
	"unravel/example"
)

func TestSymmetries(t *testing.T) {
	for name, s := range samples() {
		if n := canon.Symmetries(s.d); n != s.symmetries {
			t.Errorf("%s: %d symmetries, not %d", name, n, s.symmetries)
		}
	}
	for _, c := range []struct {
		name string
		d    api.Diagram
		want int
	}{
		{"Borromean rings", closure(3, 1, -2, 1, -2, 1, -2), 3},
		{"MaxCrossings", twisted(api.MaxCrossings, 1), api.MaxCrossings},
		{"one switched", larger()["MaxCrossings, one odd"], 1},
		{"woven", larger()["MaxCrossings, woven"], api.MaxCrossings / 2},
		{"two halves", larger()["sixteen, two symmetric"], 2},
		{"two figure-eight knots", copies(2, example.FigureEight()), 2 * 2 * 2},
		{"both trefoils", beside(example.Trefoil(), twisted(3, -1)), 9},
		{"equal ones between others", beside(example.Kink(), example.Trefoil(), example.NegativeKink(), example.Trefoil(),
			example.Kink(), example.Kink()), 3 * 2 * 1 * 3 * 3 * 2},
		{"equal numbers of equal ones", beside(example.Kink(), example.NegativeKink(), example.Kink(), example.NegativeKink()), 4},
		{"fourteen kinks", copies(14, example.Kink()), 87178291200},
		{"fourteen negative kinks", copies(14, example.NegativeKink()), 87178291200},
		{"ten trefoils", copies(10, example.Trefoil()), 59049 * 3628800},
		{"fourteen kinks and twelve twists", beside(copies(14, example.Kink()), twisted(12, 1)), 12 * 87178291200},
		{"twelve twists and fourteen kinks", beside(twisted(12, -1), copies(14, example.Kink()), example.Loops(3)), 12 * 87178291200},
	} {
		if n := canon.Symmetries(c.d); n != c.want {
			t.Errorf("%s: %d symmetries, not %d", c.name, n, c.want)
		}
	}
}

func TestTooManySymmetries(t *testing.T) {
	for name, d := range map[string]api.Diagram{
		"fourteen kinks and thirteen twists": beside(copies(14, example.Kink()), twisted(13, 1)),
		"fifteen kinks":                      copies(15, example.Kink()),
		"twenty-one kinks":                   copies(21, example.Kink()),
		"MaxCrossings kinks":                 copies(api.MaxCrossings, example.Kink()),
		"kinks of both signs":                beside(copies(32, example.Kink()), copies(32, example.NegativeKink())),
		"eleven trefoils":                    copies(11, example.Trefoil()),
		"twenty-one trefoils":                copies(21, example.Trefoil()),
		"Hopf links":                         copies(32, twisted(2, 1)),
		"many and one more":                  beside(copies(40, example.Kink()), twisted(24, 1)),
		"many and then few":                  beside(copies(40, example.Kink()), closure(2, 1, 1, -1)),
	} {
		if n := canon.Symmetries(d); n != 1<<40 {
			t.Errorf("%s: %d symmetries", name, n)
		}
	}
}

// compareSymmetries counts the orders that change nothing.
func compareSymmetries(t *testing.T, d api.Diagram) {
	t.Helper()
	count := 0
	everyOrder(len(d.Signs), func(order []int) {
		if diagram.Equal(renumbered(d, order), d) {
			count++
		}
	})
	if n := canon.Symmetries(d); n != count {
		t.Fatalf("%v: %d symmetries, not %d", d, n, count)
	}
}

func TestSymmetriesAreCounted(t *testing.T) {
	for _, d := range everyDiagram() {
		if len(d.Signs) <= 7 {
			compareSymmetries(t, d)
		}
	}
	for n := range 4 {
		example.EverySmall(n, func(d api.Diagram) {
			d.Loops = n
			compareSymmetries(t, d)
		})
	}
	compareSymmetries(t, copies(6, example.Kink()))
	compareSymmetries(t, beside(copies(3, example.Kink()), copies(3, example.NegativeKink())))
	compareSymmetries(t, beside(twisted(2, 1), example.Kink(), twisted(2, 1), example.Kink()))
}

func TestInvalidDiagramsHaveNoSymmetries(t *testing.T) {
	for _, d := range example.Invalid() {
		if n := canon.Symmetries(d); n != 0 {
			t.Errorf("%v: %d symmetries", d, n)
		}
	}
}
