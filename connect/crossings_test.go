package connect_test

import (
	"slices"
	"testing"

	"unravel/api"
	"unravel/connect"
	"unravel/example"
)

func TestNugatoryReducedAlternating(t *testing.T) {
	all := make([]int, api.MaxCrossings)
	for c := range all {
		all[c] = c
	}
	for _, c := range []struct {
		name        string
		d           api.Diagram
		nugatory    []int
		alternating bool
	}{
		{"empty", api.Diagram{}, nil, true},
		{"one loop", example.Loops(1), nil, true},
		{"MaxLoops", example.Loops(api.MaxLoops), nil, true},
		// the opposite half-edges 1 and 3 have the face [1, 3], and 0 and 2 that of the negative one
		{"kink", example.Kink(), []int{0}, true},
		{"negative kink", example.WithLoops(example.NegativeKink(), 3), []int{0}, true},
		{"Hopf link", example.Hopf(), nil, true},
		{"clasp", example.Circles(1), nil, false},
		{"trefoil", example.Trefoil(), nil, true},
		{"figure-eight knot", example.FigureEight(), nil, true},
		{"8_19", example.Dowker(4, 8, -12, 2, -14, -16, -6, -10), nil, false},
		{"alternating kinks", example.Gauss("O1+U1+O2-U2-"), []int{0, 1}, true},
		{"other kinks", example.Gauss("O1+U1+U2-O2-"), []int{0, 1}, false},
		{"kink in a trefoil", example.Gauss("O1+U3+O4+U1+O3+O2-U2-U4+"), []int{1}, false},
		{"alternating kink in a trefoil", example.Gauss("O1+U3+O4+U1+O3+U2+O2+U4+"), []int{1}, true},
		// the crossing 2 is between two circles of the smoothed diagram
		{"nugatory between two trefoils", example.Gauss("O1+U3+O4+U1+O3+U4+O2+U5-O6-U7-O5-U6-O7-U2+"), []int{1}, true},
		{"kinks apart", example.Gauss("U1-O1- O2+U3+ O4+U4+ U2+O3+"), []int{0, 3}, true},
		{"one part alternates", example.Gauss("O1+U2+ U1+O2+ O3+O4- U3+U4-"), nil, false},
		{"twists", example.Twisted(api.MaxCrossings, 1), nil, true},
		{"all limits", example.WithLoops(example.Kinks(api.MaxCrossings), api.MaxLoops), all, true},
	} {
		if got := connect.Nugatory(c.d); !slices.Equal(got, c.nugatory) {
			t.Errorf("%s: nugatory %v", c.name, got)
		}
		if got := connect.Reduced(c.d); got != (len(c.nugatory) == 0) {
			t.Errorf("%s: reduced %t", c.name, got)
		}
		if got := connect.Alternating(c.d); got != c.alternating {
			t.Errorf("%s: alternating %t", c.name, got)
		}
	}
}

func TestNothingOfInvalidDiagrams(t *testing.T) {
	for _, d := range example.Invalid() {
		if got := connect.Nugatory(d); len(got) != 0 {
			t.Errorf("%v: nugatory %v", d, got)
		}
		if connect.Reduced(d) || connect.Alternating(d) {
			t.Errorf("%v is reduced or alternating", d)
		}
		if got := connect.Cuts(d); len(got) != 0 {
			t.Errorf("%v: cuts %v", d, got)
		}
		if got := connect.Split(d); len(got) != 0 {
			t.Fatalf("%v: pieces %v", d, got)
		}
		if got := connect.Factors(d); len(got) != 0 {
			t.Fatalf("%v: factors %v", d, got)
		}
	}
}
