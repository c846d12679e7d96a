package moves_test

import (
	"math"
	"testing"

	"unravel/api"
	"unravel/example"
	"unravel/moves"
)

type refused struct {
	d    api.Diagram
	m    api.Move
	want api.Errno
}

func (c refused) check(t *testing.T) {
	t.Helper()
	if got, back, e := moves.Apply(c.d, c.m); e != c.want || !example.IsZero(got) || back != (api.Move{}) {
		t.Errorf("%v: %v: %v, %v, %d, not %d", c.d, c.m, got, back, e, c.want)
	}
}

func TestInvalidDiagrams(t *testing.T) {
	for _, d := range example.Invalid() {
		for kind := range 7 {
			refused{d, api.Move{Kind: kind, Sign: 1}, api.ErrArg}.check(t)
			refused{d, api.Move{Kind: kind, X: -1, Y: 1}, api.ErrArg}.check(t)
		}
		if l := moves.All(d); len(l) > 0 {
			t.Errorf("%v: all %v", d, l)
		}
		if l := moves.Removing(d); len(l) > 0 {
			t.Errorf("%v: removing %v", d, l)
		}
		if l := moves.Slides(d); len(l) > 0 {
			t.Errorf("%v: slides %v", d, l)
		}
	}
}

func TestKinds(t *testing.T) {
	for _, kind := range []int{math.MinInt, -1, 0, 6, 7, 1 << 32, math.MaxInt} {
		for _, d := range []api.Diagram{{}, example.WithLoops(example.Kink(), 1), example.Circles(1), example.Triangle()} {
			refused{d, api.Move{Kind: kind}, api.ErrKind}.check(t)
			refused{d, api.Move{Kind: kind, X: math.MinInt, Y: 9, Sign: 5, Over: true}, api.ErrKind}.check(t)
		}
	}
}

func TestRanges(t *testing.T) {
	d := example.WithLoops(example.Circles(1), 2)
	for _, m := range []api.Move{
		curl(-2, 1, false), curl(8, 1, false), curl(1, 0, false), curl(1, 2, true), curl(-1, -2, false), curl(0, 0, false),
		{Kind: api.Curl, X: 1, Y: 1, Sign: 1}, {Kind: api.Curl, X: 1, Y: -1, Sign: 1}, {Kind: api.Curl, X: math.MaxInt, Sign: 1},
		uncurl(-1), uncurl(2), uncurl(math.MaxInt), {Kind: api.Uncurl, Y: 1}, {Kind: api.Uncurl, Sign: 1},
		{Kind: api.Uncurl, Sign: -1}, {Kind: api.Uncurl, Over: true},
		poke(-3, 0, 0, false), poke(0, -3, 0, false), poke(8, 0, 0, false), poke(0, 8, 0, false), poke(-3, -3, 1, false),
		poke(8, 8, 1, false), poke(0, 2, 1, false), poke(0, 2, -1, false), poke(0, 2, 2, false), poke(-1, -2, 1, false),
		poke(-1, -2, -1, true), poke(-1, 0, 1, false), poke(-1, -1, -1, false), poke(-2, -2, -1, true), poke(-1, -1, 2, false),
		poke(1, 1, 0, false), poke(1, 1, 2, false), poke(1, 1, -2, false),
		unpoke(-1, 0), unpoke(0, 2), unpoke(1, 0), unpoke(0, 0), unpoke(1, 1), unpoke(math.MinInt, math.MaxInt), unpoke(2, 3),
		{Kind: api.Unpoke, Y: 1, Sign: 1}, {Kind: api.Unpoke, Y: 1, Sign: -1}, {Kind: api.Unpoke, Y: 1, Over: true},
		slide(-1), slide(8), slide(math.MinInt), {Kind: api.Slide, Y: 1}, {Kind: api.Slide, Y: -1},
		{Kind: api.Slide, Sign: 1}, {Kind: api.Slide, Over: true},
	} {
		refused{d, m, api.ErrRange}.check(t)
	}
	// a triangle would be there
	refused{example.Triangle(), api.Move{Kind: api.Slide, X: 1, Over: true}, api.ErrRange}.check(t)
	refused{example.Triangle(), slide(12), api.ErrRange}.check(t)
	// nothing is in the empty diagram; a loop as X or Y is in range, but there is none
	for _, m := range []api.Move{curl(0, 1, false), uncurl(0), poke(0, 0, 1, false), poke(-1, 0, 0, false), unpoke(0, 1), slide(0)} {
		refused{api.Diagram{}, m, api.ErrRange}.check(t)
	}
}

func TestNotApplicable(t *testing.T) {
	for _, c := range []refused{
		// incoming half-edges
		{example.Kink(), curl(0, 1, false), api.ErrMove}, {example.Kink(), curl(3, -1, true), api.ErrMove},
		{example.NegativeKink(), curl(1, 1, false), api.ErrMove}, {example.NegativeKink(), curl(0, 1, false), api.ErrMove},
		// not enough loops
		{api.Diagram{}, curl(-1, 1, false), api.ErrMove}, {example.Kink(), curl(-1, 1, false), api.ErrMove},
		{api.Diagram{}, poke(-1, -1, 1, false), api.ErrMove}, {example.Kink(), poke(-2, -2, 1, true), api.ErrMove},
		{example.Loops(1), poke(-1, -1, 0, false), api.ErrMove}, {example.Loops(1), poke(-1, -2, 0, false), api.ErrMove},
		{example.Loops(1), poke(-2, -2, 0, true), api.ErrMove}, {example.Kink(), poke(-1, 0, 0, false), api.ErrMove},
		{example.Kink(), poke(0, -2, 0, false), api.ErrMove},
		// no kinks
		{example.Trefoil(), uncurl(0), api.ErrMove}, {example.Circles(1), uncurl(1), api.ErrMove}, {example.Circles(-1), uncurl(0), api.ErrMove},
		// two ends of one edge, and different faces of one part
		{example.Kink(), poke(0, 1, 0, true), api.ErrMove}, {example.Trefoil(), poke(4, 1, 0, false), api.ErrMove},
		{example.Trefoil(), poke(0, 1, 0, false), api.ErrMove}, {example.Trefoil(), poke(7, 11, 0, true), api.ErrMove},
		{example.Kinks(2), poke(4, 6, 0, true), api.ErrMove}, {example.Kink(), poke(0, 2, 0, true), api.ErrMove},
		// no faces between two crossings, or none with an edge over the other one
		{example.Kinks(2), unpoke(0, 1), api.ErrMove}, {example.Hopf(), unpoke(0, 1), api.ErrMove}, {example.Trefoil(), unpoke(0, 2), api.ErrMove},
		{example.Chain(2), unpoke(0, 1), api.ErrMove}, {example.Triangle(), unpoke(0, 2), api.ErrMove},
		// the face to the left of this half-edge is no triangle
		{example.Triangle(), slide(0), api.ErrMove}, {example.Triangle(), slide(2), api.ErrMove},
	} {
		c.check(t)
	}
}

func TestFull(t *testing.T) {
	most := example.WithLoops(example.Twisted(api.MaxCrossings, 1), 2)
	oneLess := example.WithLoops(example.Twisted(api.MaxCrossings-1, 1), 2)
	twoLess := example.WithLoops(example.Twisted(api.MaxCrossings-2, 1), 2)
	full := func(d api.Diagram) api.Diagram { return example.WithLoops(d, api.MaxLoops) }
	for _, c := range []refused{
		{most, curl(1, 1, false), api.ErrFull}, {most, curl(-1, -1, true), api.ErrFull},
		{most, poke(-1, -1, 1, true), api.ErrFull}, {most, poke(-1, -2, 0, true), api.ErrFull}, {most, poke(1, 1, 1, true), api.ErrFull},
		{most, poke(-1, 1, 0, true), api.ErrFull}, {oneLess, poke(-1, -1, 1, true), api.ErrFull},
		{oneLess, poke(-1, -1, 0, true), api.ErrFull}, {oneLess, poke(2, 2, -1, true), api.ErrFull}, {oneLess, poke(2, -2, 0, true), api.ErrFull},
		{full(example.Kink()), uncurl(0), api.ErrFull}, {full(example.NegativeKink()), uncurl(0), api.ErrFull},
		{full(example.Kinks(api.MaxCrossings)), uncurl(63), api.ErrFull},
		{full(example.Circles(1)), unpoke(0, 1), api.ErrFull}, {example.WithLoops(example.Circles(-1), api.MaxLoops-1), unpoke(0, 1), api.ErrFull},
		{full(example.Of([]int{1, -1}, 0, 6, 5, 3, 2, 7, 1, 0, 4)), unpoke(0, 1), api.ErrFull},
		{full(example.Stack(3)), unpoke(0, 1), api.ErrFull},
		// other errors come first
		{most, curl(0, 1, false), api.ErrMove}, {most, poke(4, 5, 0, false), api.ErrMove}, {most, curl(1, 0, false), api.ErrRange},
		{example.WithLoops(most, 0), curl(-1, 1, false), api.ErrMove}, {example.WithLoops(most, 1), poke(-1, -1, 0, false), api.ErrMove},
		{full(example.Kink()), api.Move{Kind: api.Uncurl, Over: true}, api.ErrRange}, {full(example.Trefoil()), uncurl(0), api.ErrMove},
		{full(example.Kinks(api.MaxCrossings + 1)), uncurl(0), api.ErrArg}, {most, api.Move{}, api.ErrKind},
	} {
		c.check(t)
	}
	for _, c := range []struct {
		d api.Diagram
		m api.Move
	}{
		{oneLess, curl(1, 1, false)}, {oneLess, curl(-1, 1, false)},
		{twoLess, poke(1, 1, -1, false)}, {twoLess, poke(-1, -1, 0, false)},
		{full(example.Chain(api.MaxCrossings)), uncurl(9)}, {example.WithLoops(example.Kinks(api.MaxCrossings), api.MaxLoops-1), uncurl(63)},
		{example.WithLoops(example.Circles(1), api.MaxLoops-2), unpoke(0, 1)}, {example.WithLoops(example.Stack(3), api.MaxLoops-1), unpoke(0, 1)},
		{full(example.Stack(3)), unpoke(2, 3)}, {full(example.Gauss("O1+O2-U2-U1+O3+U3+")), unpoke(0, 1)}, {full(example.Triangle()), slide(1)},
	} {
		if got, _, e := moves.Apply(c.d, c.m); e != api.OK || example.IsZero(got) {
			t.Errorf("%v: %v: %v, %d", c.d, c.m, got, e)
		}
	}
}
