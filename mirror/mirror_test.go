package mirror_test

import (
	"math"
	"testing"

	"unravel/api"
	"unravel/diagram"
	"unravel/mirror"
)

func TestImages(t *testing.T) {
	// the incoming over strand of a crossing is in slot 0 of the mirror image; the reflected slots are 0, 3, 2, 1
	for _, c := range []struct {
		name                           string
		d, mirror, reflected, reversed api.Diagram
	}{
		{"empty", api.Diagram{}, api.Diagram{}, api.Diagram{}, api.Diagram{}},
		{"loops", loops(5), loops(5), loops(5), loops(5)},
		{"kink", kink(), negativeKink(), negativeKink(), kink()},
		{"negative kink", negativeKink(), kink(), kink(), negativeKink()},
		{"kink and loops", withLoops(kink(), 3), withLoops(negativeKink(), 3), withLoops(negativeKink(), 3), withLoops(kink(), 3)},
		{"nested kinks", nestedKinks(), diagramOf([]int{-1, -1}, 0, 3, 6, 5, 0, 7, 2, 1, 4),
			diagramOf([]int{-1, -1}, 0, 7, 2, 1, 4, 3, 6, 5, 0), diagramOf([]int{1, 1}, 0, 1, 0, 7, 6, 5, 4, 3, 2)},
		{"Hopf link", hopf(), negativeHopf(), negativeHopf(), hopf()},
		{"clasp", withLoops(clasp(), 1), diagramOf([]int{-1, 1}, 1, 6, 5, 4, 7, 2, 1, 0, 3),
			diagramOf([]int{-1, 1}, 1, 6, 5, 4, 7, 2, 1, 0, 3), diagramOf([]int{1, -1}, 1, 6, 5, 4, 7, 2, 1, 0, 3)},
		{"trefoil", trefoil(), leftTrefoil(), leftTrefoil(), diagramOf([]int{1, 1, 1}, 0, 5, 8, 11, 6, 9, 0, 3, 10, 1, 4, 7, 2)},
		{"figure-eight knot", figureEight(),
			diagramOf([]int{-1, 1, 1, -1}, 0, 15, 10, 7, 12, 9, 8, 13, 2, 5, 4, 1, 14, 3, 6, 11, 0),
			diagramOf([]int{-1, 1, 1, -1}, 0, 9, 14, 13, 4, 3, 12, 11, 10, 15, 0, 7, 6, 5, 2, 1, 8),
			diagramOf([]int{1, -1, -1, 1}, 0, 13, 12, 9, 6, 11, 14, 3, 8, 7, 2, 15, 4, 1, 0, 5, 10)},
	} {
		if got, e := mirror.Mirror(c.d); e != api.OK || !diagram.Equal(got, c.mirror) {
			t.Errorf("%s: the mirror image %v, %d", c.name, got, e)
		}
		if got, e := mirror.Reflect(c.d); e != api.OK || !diagram.Equal(got, c.reflected) {
			t.Errorf("%s: the reflection %v, %d", c.name, got, e)
		}
		if got, e := mirror.Reverse(c.d); e != api.OK || !diagram.Equal(got, c.reversed) {
			t.Errorf("%s: the reverse %v, %d", c.name, got, e)
		}
	}
}

func TestInvalidDiagramsHaveNoImages(t *testing.T) {
	for _, d := range invalidDiagrams() {
		for name, image := range images() {
			if got, e := image(d); e != api.ErrArg || !isZero(got) {
				t.Errorf("%s of %v: %v, %d", name, d, got, e)
			}
		}
	}
}

func TestReverseOne(t *testing.T) {
	apart := diagramOf([]int{1, 1, 1, -1}, 1, 5, 4, 7, 6, 1, 0, 3, 2, 9, 8, 11, 10, 15, 14, 13, 12)
	for _, c := range []struct {
		name string
		d    api.Diagram
		k    int
		want api.Diagram
	}{
		{"kink", kink(), 0, kink()},
		{"kink and its loop", withLoops(kink(), 1), 1, withLoops(kink(), 1)},
		{"loop", loops(1), 0, loops(1)},
		{"last loop", loops(api.MaxLoops), api.MaxLoops - 1, loops(api.MaxLoops)},
		{"nested kinks", nestedKinks(), 0, diagramOf([]int{1, 1}, 0, 1, 0, 7, 6, 5, 4, 3, 2)},
		{"trefoil", trefoil(), 0, diagramOf([]int{1, 1, 1}, 0, 5, 8, 11, 6, 9, 0, 3, 10, 1, 4, 7, 2)},
		{"Hopf link", hopf(), 0, negativeHopf()},
		{"Hopf link, the other", hopf(), 1, negativeHopf()},
		{"negative Hopf link", negativeHopf(), 0, hopf()},
		{"negative Hopf link, the other", negativeHopf(), 1, hopf()},
		// the strand [1, 7] is over at both crossings, so that only the signs change
		{"clasp", clasp(), 0, diagramOf([]int{-1, 1}, 0, 6, 5, 4, 7, 2, 1, 0, 3)},
		// the strand [2, 6] is under at both crossings, so that all half-edges move
		{"clasp, the other", clasp(), 1, diagramOf([]int{-1, 1}, 0, 6, 5, 4, 7, 2, 1, 0, 3)},
		{"first of many", apart, 0, diagramOf([]int{-1, -1, 1, -1}, 1, 7, 6, 5, 4, 3, 2, 1, 0, 9, 8, 11, 10, 15, 14, 13, 12)},
		{"third of many", apart, 2, apart},
		{"last of many", apart, 4, apart},
	} {
		if got, e := mirror.ReverseOne(c.d, c.k); e != api.OK || !diagram.Equal(got, c.want) {
			t.Errorf("%s: %v, %d", c.name, got, e)
		}
	}
}

func TestThereIsNoSuchComponent(t *testing.T) {
	for name, d := range samples() {
		n := diagram.Components(d)
		for _, k := range []int{-1, n, n + 1, math.MinInt, math.MaxInt} {
			if got, e := mirror.ReverseOne(d, k); e != api.ErrRange || !isZero(got) {
				t.Errorf("%s: the component %d: %v, %d", name, k, got, e)
			}
		}
	}
	for _, d := range invalidDiagrams() {
		for _, k := range []int{-1, 0, 1, math.MaxInt} {
			if got, e := mirror.ReverseOne(d, k); e != api.ErrArg || !isZero(got) {
				t.Errorf("%v: the component %d: %v, %d", d, k, got, e)
			}
		}
	}
}

func TestSwitch(t *testing.T) {
	for _, c := range []struct {
		name string
		d    api.Diagram
		k    int
		want api.Diagram
	}{
		{"kink", kink(), 0, negativeKink()},
		{"negative kink", withLoops(negativeKink(), 2), 0, withLoops(kink(), 2)},
		// 1, 2, 3, 0 instead of 0, 1, 2, 3
		{"Hopf link", hopf(), 0, diagramOf([]int{-1, 1}, 0, 6, 5, 4, 7, 2, 1, 0, 3)},
		{"Hopf link, the other", hopf(), 1, clasp()},
		// 3, 0, 1, 2 instead of 0, 1, 2, 3
		{"negative Hopf link", negativeHopf(), 0, clasp()},
		{"trefoil", trefoil(), 1, diagramOf([]int{1, -1, 1}, 0, 9, 5, 4, 10, 2, 1, 8, 11, 6, 0, 3, 7)},
	} {
		if got, e := mirror.Switch(c.d, c.k); e != api.OK || !diagram.Equal(got, c.want) {
			t.Errorf("%s: %v, %d", c.name, got, e)
		}
	}
}

// atCrossing lists the functions that concern one crossing, by names.
func atCrossing() map[string]func(api.Diagram, int) (api.Diagram, api.Errno) {
	return map[string]func(api.Diagram, int) (api.Diagram, api.Errno){"Switch": mirror.Switch, "Smooth": mirror.Smooth}
}

func TestThereIsNoSuchCrossing(t *testing.T) {
	for name, at := range atCrossing() {
		for sample, d := range samples() {
			n := len(d.Signs)
			for _, k := range []int{-1, n, n + 1, math.MinInt, math.MaxInt} {
				if got, e := at(d, k); e != api.ErrRange || !isZero(got) {
					t.Errorf("%s of %s at %d: %v, %d", name, sample, k, got, e)
				}
			}
		}
		for _, d := range invalidDiagrams() {
			for _, k := range []int{-1, 0, 1, math.MaxInt} {
				if got, e := at(d, k); e != api.ErrArg || !isZero(got) {
					t.Errorf("%s of %v at %d: %v, %d", name, d, k, got, e)
				}
			}
		}
	}
}

func TestSmooth(t *testing.T) {
	for _, c := range []struct {
		name string
		d    api.Diagram
		k    int
		want api.Diagram
	}{
		{"kink", kink(), 0, loops(2)},
		{"negative kink", withLoops(negativeKink(), 3), 0, loops(5)},
		{"Hopf link", hopf(), 0, kink()},
		{"Hopf link, the other", hopf(), 1, kink()},
		{"negative Hopf link", withLoops(negativeHopf(), 1), 1, withLoops(negativeKink(), 1)},
		// 3 leads to 2, and so closes up
		{"nested kinks", nestedKinks(), 0, withLoops(kink(), 1)},
		{"nested kinks, the other", nestedKinks(), 1, withLoops(kink(), 1)},
		{"clasp", clasp(), 0, negativeKink()},
		{"clasp, the other", clasp(), 1, kink()},
		{"trefoil", trefoil(), 0, hopf()},
		{"trefoil, between", trefoil(), 1, hopf()},
		{"trefoil, last", trefoil(), 2, hopf()},
		{"left trefoil", leftTrefoil(), 1, negativeHopf()},
		{"nugatory between others", drawnText("O1+U1+O2-O3+U3+U2-"), 1, kinks(2)},
		{"apart from others", drawnText("O1+U1+", "O2+U3+", "U2+O3+", "O4+U4+"), 2, kinks(3)},
	} {
		if got, e := mirror.Smooth(c.d, c.k); e != api.OK || !diagram.Equal(got, c.want) {
			t.Errorf("%s: %v, %d", c.name, got, e)
		}
	}
}

func TestSmoothYieldsTooManyLoops(t *testing.T) {
	for _, c := range []struct {
		name   string
		d      api.Diagram
		closed int
	}{
		{"kink", kink(), 2},
		{"negative kink", negativeKink(), 2},
		{"nested kinks", nestedKinks(), 1},
		{"Hopf link", hopf(), 0},
		{"clasp", clasp(), 0},
		{"trefoil", trefoil(), 0},
	} {
		most := withLoops(c.d, api.MaxLoops-c.closed)
		if got, e := mirror.Smooth(most, 0); e != api.OK || got.Loops != api.MaxLoops || !diagram.Valid(got) {
			t.Errorf("%s: %v, %d", c.name, got, e)
		}
		for n := most.Loops + 1; n <= api.MaxLoops; n++ {
			if got, e := mirror.Smooth(withLoops(c.d, n), 0); e != api.ErrFull || !isZero(got) {
				t.Errorf("%s and %d loops: %v, %d", c.name, n, got, e)
			}
			if got, e := mirror.Smooth(withLoops(c.d, n), len(c.d.Signs)); e != api.ErrRange || !isZero(got) {
				t.Errorf("%s and %d loops: %v, %d", c.name, n, got, e)
			}
		}
	}
}

func TestSmoothAtTheLimits(t *testing.T) {
	d, e := mirror.Smooth(twisted(api.MaxCrossings, -1), 40)
	if e != api.OK || !diagram.Equal(d, twisted(api.MaxCrossings-1, -1)) {
		t.Errorf("%v, %d", d, e)
	}
	d, e = mirror.Smooth(withLoops(kinks(api.MaxCrossings), api.MaxLoops-2), 63)
	if e != api.OK || !diagram.Equal(d, withLoops(kinks(api.MaxCrossings-1), api.MaxLoops)) {
		t.Errorf("%v, %d", d, e)
	}
}
