package connect_test

import (
	"math"
	"slices"
	"testing"

	"unravel/api"
	"unravel/connect"
	"unravel/diagram"
	"unravel/example"
)

type pairsOf = [][2]int

func TestCuts(t *testing.T) {
	for _, c := range []struct {
		name string
		d    api.Diagram
		want pairsOf
	}{
		{"empty", api.Diagram{}, nil},
		{"loops", example.Loops(2), nil},
		{"kink", example.Kink(), nil},
		{"Hopf link", example.Hopf(), nil},
		{"trefoil", example.Trefoil(), nil},
		{"10_123", example.Dowker(8, 10, 12, 14, 16, 18, 20, 2, 4, 6), nil},
		{"two kinks in a sum", example.Of([]int{1, 1}, 0, 5, 4, 3, 2, 1, 0, 7, 6), pairsOf{{1, 5}}},
		{"two kinks apart", example.Kinks(2), nil},
		// the under strands lead from each kink to the next one
		{"chain", example.Chain(4), pairsOf{{2, 6}, {2, 10}, {2, 14}, {6, 10}, {6, 14}, {10, 14}}},
		{"granny knot", example.Gauss("O1+U2+O3+U1+O2+O4+U5+O6+U4+O5+U6+U3+"), pairsOf{{5, 22}}},
		{"chain of links", example.Gauss("O1+U2+ U1+O2+O3-U4- U3-O4-"), pairsOf{{5, 14}}},
		{"two sums apart", example.Gauss("O1+U1+O5+U5+ O3+U3+O4-U4-O2-U2-"), pairsOf{{2, 18}, {6, 10}, {6, 14}, {10, 14}}},
	} {
		if got := connect.Cuts(c.d); !slices.Equal(got, c.want) {
			t.Errorf("%s: %v", c.name, got)
		}
	}
	if cuts := connect.Cuts(example.Chain(api.MaxCrossings)); len(cuts) != 64*63/2 || !slices.IsSortedFunc(cuts, byXThenY) {
		t.Errorf("%d cuts of the longest chain: %v", len(cuts), cuts)
	}
}

func byXThenY(a, b [2]int) int { return slices.Compare(a[:], b[:]) }

func TestFactor(t *testing.T) {
	granny := example.Gauss("O1+U2+O3+U1+O2+O4+U5+O6+U4+O5+U6+U3+")
	between := example.Gauss("O1+U3+O4+U1+O3+O2-U2-U4+")
	for _, c := range []struct {
		name string
		d    api.Diagram
		x, y int
		a, b api.Diagram
	}{
		{"two kinks", example.Chain(2), 2, 6, example.Kink(), example.Kink()},
		{"granny knot", granny, 5, 22, example.Trefoil(), example.Trefoil()},
		// the edge 6 ends the kink, and 9 leads to it from the trefoil
		{"kink in a trefoil", between, 6, 9, example.NegativeKink(), example.Trefoil()},
		{"trefoil with a kink", between, 9, 6, example.Trefoil(), example.NegativeKink()},
		{"chain, one and three", example.Chain(4), 2, 6, example.Chain(3), example.Kink()},
		{"chain, three and one", example.Chain(4), 6, 2, example.Kink(), example.Chain(3)},
		{"chain, two and two", example.Chain(4), 2, 10, example.Chain(2), example.Chain(2)},
		{"only the parts of the edges", example.WithLoops(example.Gauss("O1+U1+ O2+U2+O4-U4- O3+U3+"), 5), 6, 14, example.Kink(), example.NegativeKink()},
	} {
		a, b, e := connect.Factor(c.d, c.x, c.y)
		if e != api.OK || !diagram.Equal(a, c.a) || !diagram.Equal(b, c.b) {
			t.Errorf("%s: %v and %v, %d", c.name, a, b, e)
		}
	}
}

func TestFactorErrors(t *testing.T) {
	numbers := []int{math.MinInt, -2, -1, 0, 1, 2, 3, 4, 5, 6, 7, 8, math.MaxInt}
	for _, d := range example.Invalid() {
		for _, x := range numbers {
			if a, b, e := connect.Factor(d, x, 2); e != api.ErrArg || !example.IsZero(a) || !example.IsZero(b) {
				t.Errorf("%v along %d and 2: %v and %v, %d", d, x, a, b, e)
			}
		}
	}
	for _, x := range numbers {
		for _, y := range numbers {
			// the outgoing half-edges are 1, 2, 5, 6
			want := api.ErrMove
			switch {
			case x < 1 || y < 1 || x > 6 || y > 6 || x%4%3 == 0 || y%4%3 == 0:
				want = api.ErrRange
			case x == 2 && y == 6 || x == 6 && y == 2:
				want = api.OK
			}
			a, b, e := connect.Factor(example.Chain(2), x, y)
			if e != want || e != api.OK && !(example.IsZero(a) && example.IsZero(b)) {
				t.Errorf("along %d and %d: %v and %v, %d", x, y, a, b, e)
			}
		}
	}
	for _, d := range []api.Diagram{{}, example.Loops(1)} {
		for _, x := range numbers {
			if a, b, e := connect.Factor(d, x, x); e != api.ErrRange || !example.IsZero(a) || !example.IsZero(b) {
				t.Errorf("%v along %d: %v and %v, %d", d, x, a, b, e)
			}
		}
	}
	if _, _, e := connect.Factor(example.Kinks(2), 1, 5); e != api.ErrMove {
		t.Errorf("edges of two graph components: %d", e)
	}
}

func TestFactors(t *testing.T) {
	for _, c := range []struct {
		name string
		d    api.Diagram
		want []api.Diagram
	}{
		{"empty", api.Diagram{}, nil},
		{"loops", example.Loops(2), []api.Diagram{example.Loops(1), example.Loops(1)}},
		{"trefoil", example.Trefoil(), []api.Diagram{example.Trefoil()}},
		{"trefoil and loop", example.WithLoops(example.Trefoil(), 1), []api.Diagram{example.Trefoil(), example.Loops(1)}},
		{"two kinks", example.Of([]int{1, 1}, 0, 5, 4, 3, 2, 1, 0, 7, 6), []api.Diagram{example.Kink(), example.Kink()}},
		{"trefoil with a kink", example.Gauss("O1+U2+O3+U1+O2+O4-U4-U3+"), []api.Diagram{example.Trefoil(), example.NegativeKink()}},
		// the crossing 1 belongs to the second one, which contains the greater half-edge of the cut
		{"kink in a trefoil", example.Gauss("O1+U3+O4+U1+O3+O2-U2-U4+"), []api.Diagram{example.NegativeKink(), example.Trefoil()}},
		// the first cut is 2, 6, which leaves the crossings 1 and 3 together, with the cut 2, 10
		{"three kinks", example.Gauss("O1+U1+O2-U2-O3+U3+"), []api.Diagram{example.Kink(), example.Kink(), example.NegativeKink()}},
		{"chain of links", example.Gauss("O1+U2+ U1+O2+O3-U4- U3-O4- * *"),
			[]api.Diagram{example.Hopf(), example.Gauss("U1-O2- O1-U2-"), example.Loops(1), example.Loops(1)}},
		{"two sums apart", example.Gauss("O1+U1+O5-U5- O3+U3+O4-U4-O2-U2- *"),
			[]api.Diagram{example.Kink(), example.NegativeKink(), example.NegativeKink(), example.NegativeKink(), example.Kink(), example.Loops(1)}},
	} {
		if got := connect.Factors(c.d); !equalDiagrams(got, c.want) {
			t.Errorf("%s: %v", c.name, got)
		}
	}
}

func TestFactorsAtTheLimits(t *testing.T) {
	got := connect.Factors(example.WithLoops(example.Chain(api.MaxCrossings), api.MaxLoops))
	want := slices.Concat(slices.Repeat([]api.Diagram{example.Kink()}, 64), slices.Repeat([]api.Diagram{example.Loops(1)}, 64))
	if !equalDiagrams(got, want) {
		t.Errorf("%d factors: %v", len(got), got)
	}
}
