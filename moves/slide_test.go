package moves_test

import (
	"slices"
	"testing"

	"unravel/api"
	"unravel/diagram"
	"unravel/example"
	"unravel/moves"
)

func slide(x int) api.Move { return api.Move{Kind: api.Slide, X: x} }

// slidTriangle was made of triangle by hand: the edges of the face lead from 1 to
// 7, from 6 to 8, and from 2 to 11, so that M leads from 3 to 7, from 5 to 1, from
// 4 to 8, from 10 to 6, from 0 to 11, and from 9 to 2. The edges 10 to 3, 5 to 4,
// and 9 to 0 outside become 6 to 7, 1 to 8, and 2 to 11.
func slidTriangle() api.Diagram {
	return example.Of([]int{1, 1, 1}, 0, 9, 8, 11, 5, 10, 3, 7, 6, 1, 0, 4, 2)
}

func TestSlide(t *testing.T) {
	for _, x := range []int{1, 6, 11} {
		applied{"the triangle", example.Triangle(), slide(x), slidTriangle(), slide(3)}.check(t)
	}
	for _, x := range []int{3, 4, 9} {
		applied{"back", example.WithLoops(slidTriangle(), 5), slide(x), example.WithLoops(example.Triangle(), 5), slide(1)}.check(t)
	}
	if l := moves.Slides(example.Triangle()); !slices.Equal(l, []api.Move{slide(1)}) {
		t.Error(l)
	}
}

// The faces of three edges of these diagrams are alternating, or have one crossing
// at two corners.
func TestNoSlide(t *testing.T) {
	for _, d := range []api.Diagram{{}, example.Loops(3), example.Kink(), example.Chain(3), example.Trefoil(), example.FigureEight(), example.Circles(1),
		example.Borromean()} {
		if l := moves.Slides(d); len(l) > 0 {
			t.Errorf("%v: %v", d, l)
		}
		for x := range d.Mate {
			if got, back, e := moves.Apply(d, slide(x)); e != api.ErrMove || !example.IsZero(got) || back != (api.Move{}) {
				t.Errorf("%v at %d: %v, %v, %d", d, x, got, back, e)
			}
		}
	}
}

// Three circles, one upon the other, have four triangles on each side of each
// circle.
func TestAllTrianglesOfThreeCircles(t *testing.T) {
	d := example.Gauss("O1+O6+O3-O5- U1+O2+U3-O4- U2+U5-U4-U6+")
	l := moves.Slides(d)
	if len(l) != 8 {
		t.Fatal(l)
	}
	for _, m := range l {
		face := diagram.Face(d, m.X)
		if len(face) != 3 || slices.Min(face) != m.X {
			t.Error(m, face)
		}
		got, back, e := moves.Apply(d, m)
		if e != api.OK || diagram.Equal(got, d) {
			t.Error(m, got, e)
		}
		if again, inverse, e := moves.Apply(got, back); e != api.OK || !diagram.Equal(again, d) || inverse != m {
			t.Error(m, again, inverse, e)
		}
	}
}
