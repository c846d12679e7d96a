package connect_test

import (
	"math"
	"testing"

	"unravel/api"
	"unravel/connect"
	"unravel/diagram"
)

func TestSplit(t *testing.T) {
	for _, c := range []struct {
		name string
		d    api.Diagram
		want []api.Diagram
	}{
		{"empty", api.Diagram{}, nil},
		{"one loop", loops(1), []api.Diagram{loops(1)}},
		{"three loops", loops(3), []api.Diagram{loops(1), loops(1), loops(1)}},
		{"kink", kink(), []api.Diagram{kink()}},
		{"Hopf link", hopf(), []api.Diagram{hopf()}},
		{"kink and loops", withLoops(kink(), 2), []api.Diagram{kink(), loops(1), loops(1)}},
		{"one after the other", drawnText("O1+U2+O3+U1+O2+U3+ U4-O4- *"), []api.Diagram{trefoil(), negativeKink(), loops(1)}},
		{"the least crossing first", drawnText("U1-O1- O2+U3+O4+U2+O3+U4+"), []api.Diagram{negativeKink(), trefoil()}},
		// the crossings 1, 3, 4 and 2, 5 of the text
		{"mixed", drawnText("O1+U3+O4+U1+O3+U4+ O2+U5+ U2+O5+"), []api.Diagram{trefoil(), hopf()}},
		{"mixed, the other way", drawnText("O2+U3+O5+U2+O3+U5+ O1+U4+ U1+O4+"), []api.Diagram{hopf(), trefoil()}},
	} {
		if got := connect.Split(c.d); !equalDiagrams(got, c.want) {
			t.Errorf("%s: %v", c.name, got)
		}
	}
}

func TestSplitAtTheLimits(t *testing.T) {
	pieces := connect.Split(withLoops(kinks(api.MaxCrossings), api.MaxLoops))
	if len(pieces) != api.MaxCrossings+api.MaxLoops {
		t.Fatalf("%d pieces", len(pieces))
	}
	for i, p := range pieces {
		want := kink()
		if i >= api.MaxCrossings {
			want = loops(1)
		}
		if !diagram.Equal(p, want) {
			t.Errorf("piece %d: %v", i, p)
		}
	}
	if pieces := connect.Split(twisted(api.MaxCrossings, -1)); !equalDiagrams(pieces, []api.Diagram{twisted(api.MaxCrossings, -1)}) {
		t.Errorf("%v", pieces)
	}
}

func TestUnion(t *testing.T) {
	for _, c := range []struct {
		name       string
		a, b, want api.Diagram
	}{
		{"of nothing", api.Diagram{}, api.Diagram{}, api.Diagram{}},
		{"of loops", loops(2), loops(3), loops(5)},
		{"with nothing", kink(), api.Diagram{}, kink()},
		{"of nothing with something", api.Diagram{}, withLoops(trefoil(), 1), withLoops(trefoil(), 1)},
		{"of kinks", kink(), negativeKink(), diagramOf([]int{1, -1}, 0, 1, 0, 3, 2, 7, 6, 5, 4)},
		{"with a trefoil", withLoops(negativeKink(), 1), withLoops(trefoil(), 2),
			diagramOf([]int{-1, 1, 1, 1}, 3, 3, 2, 1, 0, 13, 8, 11, 14, 5, 12, 15, 6, 9, 4, 7, 10)},
		{"up to MaxCrossings", twisted(60, 1), twisted(4, 1), drawn(codesBeside(codeOf(twisted(60, 1)), codeOf(twisted(4, 1))))},
		{"up to MaxLoops", withLoops(kink(), 60), loops(4), withLoops(kink(), api.MaxLoops)},
		{"up to all limits", withLoops(kinks(63), 63), withLoops(kink(), 1), withLoops(kinks(64), 64)},
	} {
		if got, e := connect.Union(c.a, c.b); e != api.OK || !diagram.Equal(got, c.want) {
			t.Errorf("%s: %v, %d", c.name, got, e)
		}
	}
}

func TestUnionErrors(t *testing.T) {
	for _, d := range invalidDiagrams() {
		for _, other := range []api.Diagram{{}, kink(), loops(api.MaxLoops), kinks(api.MaxCrossings), d} {
			if got, e := connect.Union(d, other); e != api.ErrArg || !isZero(got) {
				t.Errorf("%v and %v: %v, %d", d, other, got, e)
			}
			if got, e := connect.Union(other, d); e != api.ErrArg || !isZero(got) {
				t.Errorf("%v and %v: %v, %d", other, d, got, e)
			}
		}
	}
	for _, c := range [][2]api.Diagram{
		{loops(40), loops(25)},
		{loops(api.MaxLoops), loops(1)},
		{withLoops(kink(), 1), loops(api.MaxLoops)},
		{loops(api.MaxLoops), loops(api.MaxLoops)},
		{kink(), kinks(api.MaxCrossings)},
		{twisted(63, 1), hopf()},
		{kinks(api.MaxCrossings), kinks(api.MaxCrossings)},
		{withLoops(kinks(api.MaxCrossings), api.MaxLoops), withLoops(kink(), 1)},
	} {
		if got, e := connect.Union(c[0], c[1]); e != api.ErrFull || !isZero(got) {
			t.Errorf("%v and %v: %v, %d", c[0], c[1], got, e)
		}
	}
}

func TestSum(t *testing.T) {
	for _, c := range []struct {
		name string
		a    api.Diagram
		x    int
		b    api.Diagram
		y    int
		want api.Diagram
	}{
		{"of kinks", kink(), 1, kink(), 1, diagramOf([]int{1, 1}, 0, 5, 4, 3, 2, 1, 0, 7, 6)},
		// 1 to 3 + 4 and 6 to 0
		{"of kinks, at the other edge", kink(), 1, kink(), 2, diagramOf([]int{1, 1}, 0, 6, 7, 3, 2, 5, 4, 0, 1)},
		{"of different kinks", kink(), 2, negativeKink(), 3, diagramOf([]int{1, -1}, 0, 1, 0, 4, 7, 2, 6, 5, 3)},
		{"with a trefoil", withLoops(trefoil(), 1), 10, withLoops(kink(), 2), 1,
			diagramOf([]int{1, 1, 1, 1}, 3, 9, 4, 7, 13, 1, 8, 11, 2, 5, 0, 12, 6, 10, 3, 15, 14)},
		{"of links", hopf(), 2, trefoil(), 6, drawnText("O1+U2+ U1+O5+U3+O4+U5+O3+U4+O2+")},
		{"of a loop with a trefoil", loops(1), -1, trefoil(), 1, trefoil()},
		{"of a trefoil with a loop", trefoil(), 10, loops(1), -1, trefoil()},
		{"of loops", loops(1), -1, loops(1), -1, loops(1)},
		{"of many loops", loops(5), -1, loops(7), -1, loops(11)},
		{"at a loop beside a kink", withLoops(kink(), 2), -1, withLoops(hopf(), 1), 6,
			withLoops(drawnText("O1+U1+ O2+U3+ U2+O3+"), 2)},
		{"with a loop beside a kink", hopf(), 1, withLoops(kink(), 1), -1, drawnText("O1+U2+ U1+O2+ O3+U3+")},
		{"at a loop of both", withLoops(kink(), 1), -1, withLoops(negativeKink(), 1), -1,
			diagramOf([]int{1, -1}, 1, 1, 0, 3, 2, 7, 6, 5, 4)},
	} {
		if got, e := connect.Sum(c.a, c.x, c.b, c.y); e != api.OK || !diagram.Equal(got, c.want) {
			t.Errorf("%s: %v, %d", c.name, got, e)
		}
	}
}

func TestSumAtTheLimits(t *testing.T) {
	many := withLoops(kinks(60), 60)
	for _, c := range []struct {
		name   string
		a      api.Diagram
		x      int
		b      api.Diagram
		y      int
		fits   bool
		n, all int
	}{
		{"MaxCrossings and MaxLoops", many, 237, withLoops(kinks(4), 4), 14, true, 64, 64},
		{"a crossing too many", many, 237, withLoops(kinks(5), 4), 14, false, 0, 0},
		{"a loop too many", many, 237, withLoops(kinks(4), 5), 14, false, 0, 0},
		{"one loop is replaced", many, -1, withLoops(kinks(4), 5), 14, true, 64, 64},
		{"the other loop is replaced", many, 238, withLoops(kinks(4), 5), -1, true, 64, 64},
		{"a loop too many at a loop", many, -1, withLoops(kinks(4), 6), 1, false, 0, 0},
		{"a crossing too many at a loop", many, -1, withLoops(kinks(5), 1), 1, false, 0, 0},
		{"all loops with one", loops(api.MaxLoops), -1, loops(1), -1, true, 0, 64},
		{"all loops with two", loops(api.MaxLoops), -1, loops(2), -1, false, 0, 0},
		{"all with all", withLoops(kinks(64), 64), 1, withLoops(kinks(64), 64), 1, false, 0, 0},
	} {
		got, e := connect.Sum(c.a, c.x, c.b, c.y)
		if c.fits && (e != api.OK || len(got.Signs) != c.n || got.Loops != c.all || !diagram.Equal(got, modelSum(c.a, c.x, c.b, c.y))) {
			t.Errorf("%s: %v, %d", c.name, got, e)
		}
		if !c.fits && (e != api.ErrFull || !isZero(got)) {
			t.Errorf("%s: %v, %d", c.name, got, e)
		}
	}
}

func TestSumErrors(t *testing.T) {
	for _, d := range invalidDiagrams() {
		for _, x := range []int{-1, 0, 1, 2, math.MaxInt} {
			for _, other := range []api.Diagram{{}, withLoops(kink(), 1), withLoops(kinks(api.MaxCrossings), api.MaxLoops)} {
				if got, e := connect.Sum(d, x, other, 1); e != api.ErrArg || !isZero(got) {
					t.Errorf("%v at %d and %v: %v, %d", d, x, other, got, e)
				}
				if got, e := connect.Sum(other, 1, d, x); e != api.ErrArg || !isZero(got) {
					t.Errorf("%v and %v at %d: %v, %d", other, d, x, got, e)
				}
			}
		}
	}
	all := withLoops(kinks(api.MaxCrossings), api.MaxLoops)
	for _, c := range []struct {
		d    api.Diagram
		none []int
	}{
		{api.Diagram{}, []int{-1, 0, 1}},
		{loops(1), []int{-2, 0, 1, 2}},
		{kink(), []int{-1, -2, 0, 3, 4, 5, math.MinInt, math.MaxInt}},
		{withLoops(negativeKink(), 1), []int{-2, -3, 0, 1, 4, 6}},
		{trefoil(), []int{-1, 0, 3, 4, 7, 8, 11, 12, 13}},
		{all, []int{-2, 0, 255, 256, 257}},
	} {
		for _, x := range c.none {
			if got, e := connect.Sum(c.d, x, all, 1); e != api.ErrRange || !isZero(got) {
				t.Errorf("%v at %d first: %v, %d", c.d, x, got, e)
			}
			if got, e := connect.Sum(all, 1, c.d, x); e != api.ErrRange || !isZero(got) {
				t.Errorf("%v at %d second: %v, %d", c.d, x, got, e)
			}
		}
	}
}
