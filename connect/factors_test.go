package connect_test

import (
	"math"
	"slices"
	"testing"

	"unravel/api"
	"unravel/connect"
	"unravel/diagram"
)

type pairsOf = [][2]int

func TestCuts(t *testing.T) {
	for _, c := range []struct {
		name string
		d    api.Diagram
		want pairsOf
	}{
		{"empty", api.Diagram{}, nil},
		{"loops", loops(2), nil},
		{"kink", kink(), nil},
		{"Hopf link", hopf(), nil},
		{"trefoil", trefoil(), nil},
		{"10_123", drawnDowker(8, 10, 12, 14, 16, 18, 20, 2, 4, 6), nil},
		{"two kinks in a sum", diagramOf([]int{1, 1}, 0, 5, 4, 3, 2, 1, 0, 7, 6), pairsOf{{1, 5}}},
		{"two kinks apart", kinks(2), nil},
		// the under strands lead from each kink to the next one
		{"chain", chain(4), pairsOf{{2, 6}, {2, 10}, {2, 14}, {6, 10}, {6, 14}, {10, 14}}},
		{"granny knot", drawnText("O1+U2+O3+U1+O2+O4+U5+O6+U4+O5+U6+U3+"), pairsOf{{5, 22}}},
		{"chain of links", drawnText("O1+U2+ U1+O2+O3-U4- U3-O4-"), pairsOf{{5, 14}}},
		{"two sums apart", drawnText("O1+U1+O5+U5+ O3+U3+O4-U4-O2-U2-"), pairsOf{{2, 18}, {6, 10}, {6, 14}, {10, 14}}},
	} {
		if got := connect.Cuts(c.d); !slices.Equal(got, c.want) {
			t.Errorf("%s: %v", c.name, got)
		}
	}
	if cuts := connect.Cuts(chain(api.MaxCrossings)); len(cuts) != 64*63/2 || !slices.IsSortedFunc(cuts, byXThenY) {
		t.Errorf("%d cuts of the longest chain: %v", len(cuts), cuts)
	}
}

func byXThenY(a, b [2]int) int { return slices.Compare(a[:], b[:]) }

func TestFactor(t *testing.T) {
	granny := drawnText("O1+U2+O3+U1+O2+O4+U5+O6+U4+O5+U6+U3+")
	between := drawnText("O1+U3+O4+U1+O3+O2-U2-U4+")
	for _, c := range []struct {
		name string
		d    api.Diagram
		x, y int
		a, b api.Diagram
	}{
		{"two kinks", chain(2), 2, 6, kink(), kink()},
		{"granny knot", granny, 5, 22, trefoil(), trefoil()},
		// the edge 6 ends the kink, and 9 leads to it from the trefoil
		{"kink in a trefoil", between, 6, 9, negativeKink(), trefoil()},
		{"trefoil with a kink", between, 9, 6, trefoil(), negativeKink()},
		{"chain, one and three", chain(4), 2, 6, chain(3), kink()},
		{"chain, three and one", chain(4), 6, 2, kink(), chain(3)},
		{"chain, two and two", chain(4), 2, 10, chain(2), chain(2)},
		{"only the parts of the edges", withLoops(drawnText("O1+U1+ O2+U2+O4-U4- O3+U3+"), 5), 6, 14, kink(), negativeKink()},
	} {
		a, b, e := connect.Factor(c.d, c.x, c.y)
		if e != api.OK || !diagram.Equal(a, c.a) || !diagram.Equal(b, c.b) {
			t.Errorf("%s: %v and %v, %d", c.name, a, b, e)
		}
	}
}

func TestFactorErrors(t *testing.T) {
	numbers := []int{math.MinInt, -2, -1, 0, 1, 2, 3, 4, 5, 6, 7, 8, math.MaxInt}
	for _, d := range invalidDiagrams() {
		for _, x := range numbers {
			if a, b, e := connect.Factor(d, x, 2); e != api.ErrArg || !isZero(a) || !isZero(b) {
				t.Errorf("%v along %d and 2: %v and %v, %d", d, x, a, b, e)
			}
		}
	}
	for _, x := range numbers {
		for _, y := range numbers {
			// the outgoing half-edges are 1, 2, 5, 6
			want := api.ErrMove
			switch {
			case x < 1 || y < 1 || x > 6 || y > 6 || x%4%3 == 0 || y%4%3 == 0:
				want = api.ErrRange
			case x == 2 && y == 6 || x == 6 && y == 2:
				want = api.OK
			}
			a, b, e := connect.Factor(chain(2), x, y)
			if e != want || e != api.OK && !(isZero(a) && isZero(b)) {
				t.Errorf("along %d and %d: %v and %v, %d", x, y, a, b, e)
			}
		}
	}
	for _, d := range []api.Diagram{{}, loops(1)} {
		for _, x := range numbers {
			if a, b, e := connect.Factor(d, x, x); e != api.ErrRange || !isZero(a) || !isZero(b) {
				t.Errorf("%v along %d: %v and %v, %d", d, x, a, b, e)
			}
		}
	}
	if _, _, e := connect.Factor(kinks(2), 1, 5); e != api.ErrMove {
		t.Errorf("edges of two graph components: %d", e)
	}
}

func TestFactors(t *testing.T) {
	for _, c := range []struct {
		name string
		d    api.Diagram
		want []api.Diagram
	}{
		{"empty", api.Diagram{}, nil},
		{"loops", loops(2), []api.Diagram{loops(1), loops(1)}},
		{"trefoil", trefoil(), []api.Diagram{trefoil()}},
		{"trefoil and loop", withLoops(trefoil(), 1), []api.Diagram{trefoil(), loops(1)}},
		{"two kinks", diagramOf([]int{1, 1}, 0, 5, 4, 3, 2, 1, 0, 7, 6), []api.Diagram{kink(), kink()}},
		{"trefoil with a kink", drawnText("O1+U2+O3+U1+O2+O4-U4-U3+"), []api.Diagram{trefoil(), negativeKink()}},
		// the crossing 1 belongs to the second one, which contains the greater half-edge of the cut
		{"kink in a trefoil", drawnText("O1+U3+O4+U1+O3+O2-U2-U4+"), []api.Diagram{negativeKink(), trefoil()}},
		// the first cut is 2, 6, which leaves the crossings 1 and 3 together, with the cut 2, 10
		{"three kinks", drawnText("O1+U1+O2-U2-O3+U3+"), []api.Diagram{kink(), kink(), negativeKink()}},
		{"chain of links", drawnText("O1+U2+ U1+O2+O3-U4- U3-O4- * *"),
			[]api.Diagram{hopf(), drawnText("U1-O2- O1-U2-"), loops(1), loops(1)}},
		{"two sums apart", drawnText("O1+U1+O5-U5- O3+U3+O4-U4-O2-U2- *"),
			[]api.Diagram{kink(), negativeKink(), negativeKink(), negativeKink(), kink(), loops(1)}},
	} {
		if got := connect.Factors(c.d); !equalDiagrams(got, c.want) {
			t.Errorf("%s: %v", c.name, got)
		}
	}
}

func TestFactorsAtTheLimits(t *testing.T) {
	got := connect.Factors(withLoops(chain(api.MaxCrossings), api.MaxLoops))
	want := slices.Concat(slices.Repeat([]api.Diagram{kink()}, 64), slices.Repeat([]api.Diagram{loops(1)}, 64))
	if !equalDiagrams(got, want) {
		t.Errorf("%d factors: %v", len(got), got)
	}
}
