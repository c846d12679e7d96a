package moves_test

import (
	"slices"
	"testing"

	"unravel/api"
	"unravel/example"
	"unravel/moves"
)

func TestAllOfSmallDiagrams(t *testing.T) {
	curls := []api.Move{curl(-1, -1, false), curl(-1, -1, true), curl(-1, 1, false), curl(-1, 1, true)}
	for _, c := range []struct {
		name string
		d    api.Diagram
		want []api.Move
	}{
		{"empty", api.Diagram{}, nil},
		{"one loop", example.Loops(1), slices.Concat(curls, []api.Move{
			poke(-2, -2, 1, false), poke(-2, -2, 1, true), poke(-1, -1, 1, false), poke(-1, -1, 1, true),
		})},
		{"two loops", example.Loops(2), slices.Concat(curls, []api.Move{
			poke(-2, -2, 0, false), poke(-2, -2, 0, true), poke(-2, -2, 1, false), poke(-2, -2, 1, true),
			poke(-2, -1, 0, false), poke(-2, -1, 0, true), poke(-1, -2, 0, false), poke(-1, -2, 0, true),
			poke(-1, -1, 0, false), poke(-1, -1, 0, true), poke(-1, -1, 1, false), poke(-1, -1, 1, true),
		})},
		// the half-edges 1 and 3 are on one face
		{"kink", example.Kink(), []api.Move{
			curl(1, -1, false), curl(1, -1, true), curl(1, 1, false), curl(1, 1, true),
			curl(2, -1, false), curl(2, -1, true), curl(2, 1, false), curl(2, 1, true),
			uncurl(0),
			poke(0, 0, -1, false), poke(0, 0, -1, true), poke(0, 0, 1, false), poke(0, 0, 1, true),
			poke(1, 1, -1, false), poke(1, 1, -1, true), poke(1, 1, 1, false), poke(1, 1, 1, true),
			poke(1, 3, 0, false), poke(1, 3, 0, true),
			poke(2, 2, -1, false), poke(2, 2, -1, true), poke(2, 2, 1, false), poke(2, 2, 1, true),
			poke(3, 1, 0, false), poke(3, 1, 0, true),
			poke(3, 3, -1, false), poke(3, 3, -1, true), poke(3, 3, 1, false), poke(3, 3, 1, true),
		}},
	} {
		if got := moves.All(c.d); !slices.Equal(got, c.want) {
			t.Errorf("%s: %v", c.name, got)
		}
	}
}

func TestRemovingAndSlides(t *testing.T) {
	for _, c := range []struct {
		name             string
		d                api.Diagram
		removing, slides []api.Move
	}{
		{"empty", api.Diagram{}, nil, nil},
		{"loops", example.Loops(5), nil, nil},
		{"kinks", example.Kinks(3), []api.Move{uncurl(0), uncurl(1), uncurl(2)}, nil},
		{"kinks, but no room for another loop", example.WithLoops(example.Kinks(3), api.MaxLoops), nil, nil},
		{"circles", example.Circles(1), []api.Move{unpoke(0, 1)}, nil},
		{"circles, but no room for two loops", example.WithLoops(example.Circles(1), api.MaxLoops-1), nil, nil},
		{"stack of circles", example.Stack(3), []api.Move{unpoke(0, 1), unpoke(2, 3), unpoke(4, 5)}, nil},
		{"stack of circles, but no room", example.WithLoops(example.Stack(3), api.MaxLoops), []api.Move{unpoke(2, 3)}, nil},
		{"poked by itself", example.Gauss("O1+O2-U2-U1+"), []api.Move{uncurl(0), uncurl(1), unpoke(0, 1)}, nil},
		{"trefoil", example.Trefoil(), nil, nil},
		{"triangle", example.Triangle(), []api.Move{uncurl(1)}, []api.Move{slide(1)}},
		{"slid triangle", slidTriangle(), []api.Move{uncurl(1)}, []api.Move{slide(3)}},
	} {
		if got := moves.Removing(c.d); !slices.Equal(got, c.removing) {
			t.Errorf("%s: removing %v", c.name, got)
		}
		if got := moves.Slides(c.d); !slices.Equal(got, c.slides) {
			t.Errorf("%s: slides %v", c.name, got)
		}
		if got := ofKinds(moves.All(c.d), api.Uncurl, api.Unpoke, api.Slide); !slices.Equal(got, slices.Concat(c.removing, c.slides)) {
			t.Errorf("%s: of all %v", c.name, got)
		}
	}
}

// The faces of the closed braid with n twists are two of n edges and n of two, so
// that there are 2 n n ordered pairs of edges for a Poke; kinks of their own lie
// on different spheres.
func TestNumbersOfMovesAtTheLimits(t *testing.T) {
	for _, c := range []struct {
		name  string
		d     api.Diagram
		count [6]int
	}{
		{"twists, room for two crossings", example.Twisted(62, 1), [6]int{api.Curl: 8 * 62, api.Poke: 4*62*62 + 16*62}},
		{"twists, room for one crossing", example.Twisted(63, 1), [6]int{api.Curl: 8 * 63}},
		{"twists, no room", example.WithLoops(example.Twisted(64, 1), 3), [6]int{}},
		{"kinks, room for two crossings", example.Kinks(62),
			[6]int{api.Curl: 8 * 62, api.Uncurl: 62, api.Poke: 2*(16*62*61+2*62) + 16*62}},
		{"kinks and loops", example.WithLoops(example.Kinks(63), 63), [6]int{api.Curl: 8*63 + 4, api.Uncurl: 63}},
		{"all limits", example.WithLoops(example.Kinks(64), 64), [6]int{}},
		{"MaxLoops", example.Loops(64), [6]int{api.Curl: 4, api.Poke: 12}},
	} {
		var count [6]int
		for _, m := range moves.All(c.d) {
			count[m.Kind]++
		}
		if count != c.count {
			t.Errorf("%s: %v", c.name, count)
		}
	}
}
