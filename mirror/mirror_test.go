package mirror_test

import (
	"math"
	"testing"

	"unravel/api"
	"unravel/diagram"
	"unravel/example"
	"unravel/mirror"
)

func TestImages(t *testing.T) {
	// the incoming over strand of a crossing is in slot 0 of the mirror image; the reflected slots are 0, 3, 2, 1
	for _, c := range []struct {
		name                           string
		d, mirror, reflected, reversed api.Diagram
	}{
		{"empty", api.Diagram{}, api.Diagram{}, api.Diagram{}, api.Diagram{}},
		{"loops", example.Loops(5), example.Loops(5), example.Loops(5), example.Loops(5)},
		{"kink", example.Kink(), example.NegativeKink(), example.NegativeKink(), example.Kink()},
		{"negative kink", example.NegativeKink(), example.Kink(), example.Kink(), example.NegativeKink()},
		{"kink and loops", example.WithLoops(example.Kink(), 3), example.WithLoops(example.NegativeKink(), 3),
			example.WithLoops(example.NegativeKink(), 3), example.WithLoops(example.Kink(), 3)},
		{"nested kinks", nestedKinks(), example.Of([]int{-1, -1}, 0, 3, 6, 5, 0, 7, 2, 1, 4),
			example.Of([]int{-1, -1}, 0, 7, 2, 1, 4, 3, 6, 5, 0), example.Of([]int{1, 1}, 0, 1, 0, 7, 6, 5, 4, 3, 2)},
		{"Hopf link", example.Hopf(), negativeHopf(), negativeHopf(), example.Hopf()},
		{"clasp", example.WithLoops(example.Circles(1), 1), example.Of([]int{-1, 1}, 1, 6, 5, 4, 7, 2, 1, 0, 3),
			example.Of([]int{-1, 1}, 1, 6, 5, 4, 7, 2, 1, 0, 3), example.Of([]int{1, -1}, 1, 6, 5, 4, 7, 2, 1, 0, 3)},
		{"trefoil", example.Trefoil(), leftTrefoil(), leftTrefoil(), example.Of([]int{1, 1, 1}, 0, 5, 8, 11, 6, 9, 0, 3, 10, 1, 4, 7, 2)},
		{"figure-eight knot", example.FigureEight(),
			example.Of([]int{-1, 1, 1, -1}, 0, 15, 10, 7, 12, 9, 8, 13, 2, 5, 4, 1, 14, 3, 6, 11, 0),
			example.Of([]int{-1, 1, 1, -1}, 0, 9, 14, 13, 4, 3, 12, 11, 10, 15, 0, 7, 6, 5, 2, 1, 8),
			example.Of([]int{1, -1, -1, 1}, 0, 13, 12, 9, 6, 11, 14, 3, 8, 7, 2, 15, 4, 1, 0, 5, 10)},
	} {
		if got, e := mirror.Mirror(c.d); e != api.OK || !diagram.Equal(got, c.mirror) {
			t.Errorf("%s: the mirror image %v, %d", c.name, got, e)
		}
		if got, e := mirror.Reflect(c.d); e != api.OK || !diagram.Equal(got, c.reflected) {
			t.Errorf("%s: the reflection %v, %d", c.name, got, e)
		}
		if got, e := mirror.Reverse(c.d); e != api.OK || !diagram.Equal(got, c.reversed) {
			t.Errorf("%s: the reverse %v, %d", c.name, got, e)
		}
	}
}

func TestInvalidDiagramsHaveNoImages(t *testing.T) {
	for _, d := range example.Invalid() {
		for name, image := range images() {
			if got, e := image(d); e != api.ErrArg || !example.IsZero(got) {
				t.Errorf("%s of %v: %v, %d", name, d, got, e)
			}
		}
	}
}

func TestReverseOne(t *testing.T) {
	apart := example.Of([]int{1, 1, 1, -1}, 1, 5, 4, 7, 6, 1, 0, 3, 2, 9, 8, 11, 10, 15, 14, 13, 12)
	for _, c := range []struct {
		name string
		d    api.Diagram
		k    int
		want api.Diagram
	}{
		{"kink", example.Kink(), 0, example.Kink()},
		{"kink and its loop", example.WithLoops(example.Kink(), 1), 1, example.WithLoops(example.Kink(), 1)},
		{"loop", example.Loops(1), 0, example.Loops(1)},
		{"last loop", example.Loops(api.MaxLoops), api.MaxLoops - 1, example.Loops(api.MaxLoops)},
		{"nested kinks", nestedKinks(), 0, example.Of([]int{1, 1}, 0, 1, 0, 7, 6, 5, 4, 3, 2)},
		{"trefoil", example.Trefoil(), 0, example.Of([]int{1, 1, 1}, 0, 5, 8, 11, 6, 9, 0, 3, 10, 1, 4, 7, 2)},
		{"Hopf link", example.Hopf(), 0, negativeHopf()},
		{"Hopf link, the other", example.Hopf(), 1, negativeHopf()},
		{"negative Hopf link", negativeHopf(), 0, example.Hopf()},
		{"negative Hopf link, the other", negativeHopf(), 1, example.Hopf()},
		// the strand [1, 7] is over at both crossings, so that only the signs change
		{"clasp", example.Circles(1), 0, example.Of([]int{-1, 1}, 0, 6, 5, 4, 7, 2, 1, 0, 3)},
		// the strand [2, 6] is under at both crossings, so that all half-edges move
		{"clasp, the other", example.Circles(1), 1, example.Of([]int{-1, 1}, 0, 6, 5, 4, 7, 2, 1, 0, 3)},
		{"first of many", apart, 0, example.Of([]int{-1, -1, 1, -1}, 1, 7, 6, 5, 4, 3, 2, 1, 0, 9, 8, 11, 10, 15, 14, 13, 12)},
		{"third of many", apart, 2, apart},
		{"last of many", apart, 4, apart},
	} {
		if got, e := mirror.ReverseOne(c.d, c.k); e != api.OK || !diagram.Equal(got, c.want) {
			t.Errorf("%s: %v, %d", c.name, got, e)
		}
	}
}

func TestThereIsNoSuchComponent(t *testing.T) {
	for name, d := range samples() {
		n := diagram.Components(d)
		for _, k := range []int{-1, n, n + 1, math.MinInt, math.MaxInt} {
			if got, e := mirror.ReverseOne(d, k); e != api.ErrRange || !example.IsZero(got) {
				t.Errorf("%s: the component %d: %v, %d", name, k, got, e)
			}
		}
	}
	for _, d := range example.Invalid() {
		for _, k := range []int{-1, 0, 1, math.MaxInt} {
			if got, e := mirror.ReverseOne(d, k); e != api.ErrArg || !example.IsZero(got) {
				t.Errorf("%v: the component %d: %v, %d", d, k, got, e)
			}
		}
	}
}

func TestSwitch(t *testing.T) {
	for _, c := range []struct {
		name string
		d    api.Diagram
		k    int
		want api.Diagram
	}{
		{"kink", example.Kink(), 0, example.NegativeKink()},
		{"negative kink", example.WithLoops(example.NegativeKink(), 2), 0, example.WithLoops(example.Kink(), 2)},
		// 1, 2, 3, 0 instead of 0, 1, 2, 3
		{"Hopf link", example.Hopf(), 0, example.Of([]int{-1, 1}, 0, 6, 5, 4, 7, 2, 1, 0, 3)},
		{"Hopf link, the other", example.Hopf(), 1, example.Circles(1)},
		// 3, 0, 1, 2 instead of 0, 1, 2, 3
		{"negative Hopf link", negativeHopf(), 0, example.Circles(1)},
		{"trefoil", example.Trefoil(), 1, example.Of([]int{1, -1, 1}, 0, 9, 5, 4, 10, 2, 1, 8, 11, 6, 0, 3, 7)},
	} {
		if got, e := mirror.Switch(c.d, c.k); e != api.OK || !diagram.Equal(got, c.want) {
			t.Errorf("%s: %v, %d", c.name, got, e)
		}
	}
}

// atCrossing lists the functions that concern one crossing, by names.
func atCrossing() map[string]func(api.Diagram, int) (api.Diagram, api.Errno) {
	return map[string]func(api.Diagram, int) (api.Diagram, api.Errno){"Switch": mirror.Switch, "Smooth": mirror.Smooth}
}

func TestThereIsNoSuchCrossing(t *testing.T) {
	for name, at := range atCrossing() {
		for sample, d := range samples() {
			n := len(d.Signs)
			for _, k := range []int{-1, n, n + 1, math.MinInt, math.MaxInt} {
				if got, e := at(d, k); e != api.ErrRange || !example.IsZero(got) {
					t.Errorf("%s of %s at %d: %v, %d", name, sample, k, got, e)
				}
			}
		}
		for _, d := range example.Invalid() {
			for _, k := range []int{-1, 0, 1, math.MaxInt} {
				if got, e := at(d, k); e != api.ErrArg || !example.IsZero(got) {
					t.Errorf("%s of %v at %d: %v, %d", name, d, k, got, e)
				}
			}
		}
	}
}

func TestSmooth(t *testing.T) {
	for _, c := range []struct {
		name string
		d    api.Diagram
		k    int
		want api.Diagram
	}{
		{"kink", example.Kink(), 0, example.Loops(2)},
		{"negative kink", example.WithLoops(example.NegativeKink(), 3), 0, example.Loops(5)},
		{"Hopf link", example.Hopf(), 0, example.Kink()},
		{"Hopf link, the other", example.Hopf(), 1, example.Kink()},
		{"negative Hopf link", example.WithLoops(negativeHopf(), 1), 1, example.WithLoops(example.NegativeKink(), 1)},
		// 3 leads to 2, and so closes up
		{"nested kinks", nestedKinks(), 0, example.WithLoops(example.Kink(), 1)},
		{"nested kinks, the other", nestedKinks(), 1, example.WithLoops(example.Kink(), 1)},
		{"clasp", example.Circles(1), 0, example.NegativeKink()},
		{"clasp, the other", example.Circles(1), 1, example.Kink()},
		{"trefoil", example.Trefoil(), 0, example.Hopf()},
		{"trefoil, between", example.Trefoil(), 1, example.Hopf()},
		{"trefoil, last", example.Trefoil(), 2, example.Hopf()},
		{"left trefoil", leftTrefoil(), 1, negativeHopf()},
		{"nugatory between others", example.Gauss("O1+U1+O2-O3+U3+U2-"), 1, example.Kinks(2)},
		{"apart from others", example.Gauss("O1+U1+ O2+U3+ U2+O3+ O4+U4+"), 2, example.Kinks(3)},
	} {
		if got, e := mirror.Smooth(c.d, c.k); e != api.OK || !diagram.Equal(got, c.want) {
			t.Errorf("%s: %v, %d", c.name, got, e)
		}
	}
}

func TestSmoothYieldsTooManyLoops(t *testing.T) {
	for _, c := range []struct {
		name   string
		d      api.Diagram
		closed int
	}{
		{"kink", example.Kink(), 2},
		{"negative kink", example.NegativeKink(), 2},
		{"nested kinks", nestedKinks(), 1},
		{"Hopf link", example.Hopf(), 0},
		{"clasp", example.Circles(1), 0},
		{"trefoil", example.Trefoil(), 0},
	} {
		most := example.WithLoops(c.d, api.MaxLoops-c.closed)
		if got, e := mirror.Smooth(most, 0); e != api.OK || got.Loops != api.MaxLoops || !diagram.Valid(got) {
			t.Errorf("%s: %v, %d", c.name, got, e)
		}
		for n := most.Loops + 1; n <= api.MaxLoops; n++ {
			if got, e := mirror.Smooth(example.WithLoops(c.d, n), 0); e != api.ErrFull || !example.IsZero(got) {
				t.Errorf("%s and %d loops: %v, %d", c.name, n, got, e)
			}
			if got, e := mirror.Smooth(example.WithLoops(c.d, n), len(c.d.Signs)); e != api.ErrRange || !example.IsZero(got) {
				t.Errorf("%s and %d loops: %v, %d", c.name, n, got, e)
			}
		}
	}
}

func TestSmoothAtTheLimits(t *testing.T) {
	d, e := mirror.Smooth(example.Twisted(api.MaxCrossings, -1), 40)
	if e != api.OK || !diagram.Equal(d, example.Twisted(api.MaxCrossings-1, -1)) {
		t.Errorf("%v, %d", d, e)
	}
	d, e = mirror.Smooth(example.WithLoops(example.Kinks(api.MaxCrossings), api.MaxLoops-2), 63)
	if e != api.OK || !diagram.Equal(d, example.WithLoops(example.Kinks(api.MaxCrossings-1), api.MaxLoops)) {
		t.Errorf("%v, %d", d, e)
	}
}
