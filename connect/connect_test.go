package connect_test

import (
	"math"
	"testing"

	"unravel/api"
	"unravel/connect"
	"unravel/diagram"
	"unravel/example"
)

func TestSplit(t *testing.T) {
	for _, c := range []struct {
		name string
		d    api.Diagram
		want []api.Diagram
	}{
		{"empty", api.Diagram{}, nil},
		{"one loop", example.Loops(1), []api.Diagram{example.Loops(1)}},
		{"three loops", example.Loops(3), []api.Diagram{example.Loops(1), example.Loops(1), example.Loops(1)}},
		{"kink", example.Kink(), []api.Diagram{example.Kink()}},
		{"Hopf link", example.Hopf(), []api.Diagram{example.Hopf()}},
		{"kink and loops", example.WithLoops(example.Kink(), 2), []api.Diagram{example.Kink(), example.Loops(1), example.Loops(1)}},
		{"one after the other", example.Gauss("O1+U2+O3+U1+O2+U3+ U4-O4- *"), []api.Diagram{example.Trefoil(), example.NegativeKink(), example.Loops(1)}},
		{"the least crossing first", example.Gauss("U1-O1- O2+U3+O4+U2+O3+U4+"), []api.Diagram{example.NegativeKink(), example.Trefoil()}},
		// the crossings 1, 3, 4 and 2, 5 of the text
		{"mixed", example.Gauss("O1+U3+O4+U1+O3+U4+ O2+U5+ U2+O5+"), []api.Diagram{example.Trefoil(), example.Hopf()}},
		{"mixed, the other way", example.Gauss("O2+U3+O5+U2+O3+U5+ O1+U4+ U1+O4+"), []api.Diagram{example.Hopf(), example.Trefoil()}},
	} {
		if got := connect.Split(c.d); !equalDiagrams(got, c.want) {
			t.Errorf("%s: %v", c.name, got)
		}
	}
}

func TestSplitAtTheLimits(t *testing.T) {
	pieces := connect.Split(example.WithLoops(example.Kinks(api.MaxCrossings), api.MaxLoops))
	if len(pieces) != api.MaxCrossings+api.MaxLoops {
		t.Fatalf("%d pieces", len(pieces))
	}
	for i, p := range pieces {
		want := example.Kink()
		if i >= api.MaxCrossings {
			want = example.Loops(1)
		}
		if !diagram.Equal(p, want) {
			t.Errorf("piece %d: %v", i, p)
		}
	}
	if pieces := connect.Split(example.Twisted(api.MaxCrossings, -1)); !equalDiagrams(pieces, []api.Diagram{example.Twisted(api.MaxCrossings, -1)}) {
		t.Errorf("%v", pieces)
	}
}

func TestUnion(t *testing.T) {
	for _, c := range []struct {
		name       string
		a, b, want api.Diagram
	}{
		{"of nothing", api.Diagram{}, api.Diagram{}, api.Diagram{}},
		{"of loops", example.Loops(2), example.Loops(3), example.Loops(5)},
		{"with nothing", example.Kink(), api.Diagram{}, example.Kink()},
		{"of nothing with something", api.Diagram{}, example.WithLoops(example.Trefoil(), 1), example.WithLoops(example.Trefoil(), 1)},
		{"of kinks", example.Kink(), example.NegativeKink(), example.Of([]int{1, -1}, 0, 1, 0, 3, 2, 7, 6, 5, 4)},
		{"with a trefoil", example.WithLoops(example.NegativeKink(), 1), example.WithLoops(example.Trefoil(), 2),
			example.Of([]int{-1, 1, 1, 1}, 3, 3, 2, 1, 0, 13, 8, 11, 14, 5, 12, 15, 6, 9, 4, 7, 10)},
		{"up to MaxCrossings", example.Twisted(60, 1), example.Twisted(4, 1),
			example.Drawn(codesBeside(codeOf(example.Twisted(60, 1)), codeOf(example.Twisted(4, 1))))},
		{"up to MaxLoops", example.WithLoops(example.Kink(), 60), example.Loops(4), example.WithLoops(example.Kink(), api.MaxLoops)},
		{"up to all limits", example.WithLoops(example.Kinks(63), 63), example.WithLoops(example.Kink(), 1), example.WithLoops(example.Kinks(64), 64)},
	} {
		if got, e := connect.Union(c.a, c.b); e != api.OK || !diagram.Equal(got, c.want) {
			t.Errorf("%s: %v, %d", c.name, got, e)
		}
	}
}

func TestUnionErrors(t *testing.T) {
	for _, d := range example.Invalid() {
		for _, other := range []api.Diagram{{}, example.Kink(), example.Loops(api.MaxLoops), example.Kinks(api.MaxCrossings), d} {
			if got, e := connect.Union(d, other); e != api.ErrArg || !example.IsZero(got) {
				t.Errorf("%v and %v: %v, %d", d, other, got, e)
			}
			if got, e := connect.Union(other, d); e != api.ErrArg || !example.IsZero(got) {
				t.Errorf("%v and %v: %v, %d", other, d, got, e)
			}
		}
	}
	for _, c := range [][2]api.Diagram{
		{example.Loops(40), example.Loops(25)},
		{example.Loops(api.MaxLoops), example.Loops(1)},
		{example.WithLoops(example.Kink(), 1), example.Loops(api.MaxLoops)},
		{example.Loops(api.MaxLoops), example.Loops(api.MaxLoops)},
		{example.Kink(), example.Kinks(api.MaxCrossings)},
		{example.Twisted(63, 1), example.Hopf()},
		{example.Kinks(api.MaxCrossings), example.Kinks(api.MaxCrossings)},
		{example.WithLoops(example.Kinks(api.MaxCrossings), api.MaxLoops), example.WithLoops(example.Kink(), 1)},
	} {
		if got, e := connect.Union(c[0], c[1]); e != api.ErrFull || !example.IsZero(got) {
			t.Errorf("%v and %v: %v, %d", c[0], c[1], got, e)
		}
	}
}

func TestSum(t *testing.T) {
	for _, c := range []struct {
		name string
		a    api.Diagram
		x    int
		b    api.Diagram
		y    int
		want api.Diagram
	}{
		{"of kinks", example.Kink(), 1, example.Kink(), 1, example.Of([]int{1, 1}, 0, 5, 4, 3, 2, 1, 0, 7, 6)},
		// 1 to 3 + 4 and 6 to 0
		{"of kinks, at the other edge", example.Kink(), 1, example.Kink(), 2, example.Of([]int{1, 1}, 0, 6, 7, 3, 2, 5, 4, 0, 1)},
		{"of different kinks", example.Kink(), 2, example.NegativeKink(), 3, example.Of([]int{1, -1}, 0, 1, 0, 4, 7, 2, 6, 5, 3)},
		{"with a trefoil", example.WithLoops(example.Trefoil(), 1), 10, example.WithLoops(example.Kink(), 2), 1,
			example.Of([]int{1, 1, 1, 1}, 3, 9, 4, 7, 13, 1, 8, 11, 2, 5, 0, 12, 6, 10, 3, 15, 14)},
		{"of links", example.Hopf(), 2, example.Trefoil(), 6, example.Gauss("O1+U2+ U1+O5+U3+O4+U5+O3+U4+O2+")},
		{"of a loop with a trefoil", example.Loops(1), -1, example.Trefoil(), 1, example.Trefoil()},
		{"of a trefoil with a loop", example.Trefoil(), 10, example.Loops(1), -1, example.Trefoil()},
		{"of loops", example.Loops(1), -1, example.Loops(1), -1, example.Loops(1)},
		{"of many loops", example.Loops(5), -1, example.Loops(7), -1, example.Loops(11)},
		{"at a loop beside a kink", example.WithLoops(example.Kink(), 2), -1, example.WithLoops(example.Hopf(), 1), 6,
			example.WithLoops(example.Gauss("O1+U1+ O2+U3+ U2+O3+"), 2)},
		{"with a loop beside a kink", example.Hopf(), 1, example.WithLoops(example.Kink(), 1), -1, example.Gauss("O1+U2+ U1+O2+ O3+U3+")},
		{"at a loop of both", example.WithLoops(example.Kink(), 1), -1, example.WithLoops(example.NegativeKink(), 1), -1,
			example.Of([]int{1, -1}, 1, 1, 0, 3, 2, 7, 6, 5, 4)},
	} {
		if got, e := connect.Sum(c.a, c.x, c.b, c.y); e != api.OK || !diagram.Equal(got, c.want) {
			t.Errorf("%s: %v, %d", c.name, got, e)
		}
	}
}

func TestSumAtTheLimits(t *testing.T) {
	many := example.WithLoops(example.Kinks(60), 60)
	for _, c := range []struct {
		name   string
		a      api.Diagram
		x      int
		b      api.Diagram
		y      int
		fits   bool
		n, all int
	}{
		{"MaxCrossings and MaxLoops", many, 237, example.WithLoops(example.Kinks(4), 4), 14, true, 64, 64},
		{"a crossing too many", many, 237, example.WithLoops(example.Kinks(5), 4), 14, false, 0, 0},
		{"a loop too many", many, 237, example.WithLoops(example.Kinks(4), 5), 14, false, 0, 0},
		{"one loop is replaced", many, -1, example.WithLoops(example.Kinks(4), 5), 14, true, 64, 64},
		{"the other loop is replaced", many, 238, example.WithLoops(example.Kinks(4), 5), -1, true, 64, 64},
		{"a loop too many at a loop", many, -1, example.WithLoops(example.Kinks(4), 6), 1, false, 0, 0},
		{"a crossing too many at a loop", many, -1, example.WithLoops(example.Kinks(5), 1), 1, false, 0, 0},
		{"all loops with one", example.Loops(api.MaxLoops), -1, example.Loops(1), -1, true, 0, 64},
		{"all loops with two", example.Loops(api.MaxLoops), -1, example.Loops(2), -1, false, 0, 0},
		{"all with all", example.WithLoops(example.Kinks(64), 64), 1, example.WithLoops(example.Kinks(64), 64), 1, false, 0, 0},
	} {
		got, e := connect.Sum(c.a, c.x, c.b, c.y)
		if c.fits && (e != api.OK || len(got.Signs) != c.n || got.Loops != c.all || !diagram.Equal(got, modelSum(c.a, c.x, c.b, c.y))) {
			t.Errorf("%s: %v, %d", c.name, got, e)
		}
		if !c.fits && (e != api.ErrFull || !example.IsZero(got)) {
			t.Errorf("%s: %v, %d", c.name, got, e)
		}
	}
}

func TestSumErrors(t *testing.T) {
	for _, d := range example.Invalid() {
		for _, x := range []int{-1, 0, 1, 2, math.MaxInt} {
			for _, other := range []api.Diagram{{}, example.WithLoops(example.Kink(), 1), example.WithLoops(example.Kinks(api.MaxCrossings), api.MaxLoops)} {
				if got, e := connect.Sum(d, x, other, 1); e != api.ErrArg || !example.IsZero(got) {
					t.Errorf("%v at %d and %v: %v, %d", d, x, other, got, e)
				}
				if got, e := connect.Sum(other, 1, d, x); e != api.ErrArg || !example.IsZero(got) {
					t.Errorf("%v and %v at %d: %v, %d", other, d, x, got, e)
				}
			}
		}
	}
	all := example.WithLoops(example.Kinks(api.MaxCrossings), api.MaxLoops)
	for _, c := range []struct {
		d    api.Diagram
		none []int
	}{
		{api.Diagram{}, []int{-1, 0, 1}},
		{example.Loops(1), []int{-2, 0, 1, 2}},
		{example.Kink(), []int{-1, -2, 0, 3, 4, 5, math.MinInt, math.MaxInt}},
		{example.WithLoops(example.NegativeKink(), 1), []int{-2, -3, 0, 1, 4, 6}},
		{example.Trefoil(), []int{-1, 0, 3, 4, 7, 8, 11, 12, 13}},
		{all, []int{-2, 0, 255, 256, 257}},
	} {
		for _, x := range c.none {
			if got, e := connect.Sum(c.d, x, all, 1); e != api.ErrRange || !example.IsZero(got) {
				t.Errorf("%v at %d first: %v, %d", c.d, x, got, e)
			}
			if got, e := connect.Sum(all, 1, c.d, x); e != api.ErrRange || !example.IsZero(got) {
				t.Errorf("%v at %d second: %v, %d", c.d, x, got, e)
			}
		}
	}
}
