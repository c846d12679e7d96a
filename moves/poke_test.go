package moves_test

import (
	"testing"

	"unravel/api"
	"unravel/example"
)

func poke(x, y, sign int, over bool) api.Move {
	return api.Move{Kind: api.Poke, X: x, Y: y, Sign: sign, Over: over}
}

func unpoke(x, y int) api.Move { return api.Move{Kind: api.Unpoke, X: x, Y: y} }

func TestPoke(t *testing.T) {
	for _, c := range []applied{
		{"two loops, over", example.Loops(2), poke(-1, -1, 0, true), example.Circles(1), unpoke(0, 1)},
		{"two loops, under", example.Loops(2), poke(-1, -1, 0, false), example.Circles(-1), unpoke(0, 1)},
		{"the line against its direction, over", example.Loops(3), poke(-1, -2, 0, true), example.WithLoops(example.Circles(-1), 1), unpoke(0, 1)},
		{"the line against its direction, under", example.Loops(2), poke(-1, -2, 0, false), example.Circles(1), unpoke(0, 1)},
		{"the other one against its direction", example.Loops(2), poke(-2, -1, 0, true), example.Circles(-1), unpoke(0, 1)},
		{"both against their directions", example.Loops(2), poke(-2, -2, 0, true), example.Circles(1), unpoke(0, 1)},
		// P is 0 to 3 (east to south), Q is 4 to 7
		{"a loop over itself", example.Loops(1), poke(-1, -1, 1, true), example.Of([]int{1, -1}, 0, 6, 5, 3, 2, 7, 1, 0, 4), unpoke(0, 1)},
		// P from the south (0) on, Q from the north (4) on
		{"a loop under itself", example.Loops(1), poke(-1, -1, 1, false), example.Of([]int{-1, 1}, 0, 3, 5, 4, 0, 2, 1, 7, 6), unpoke(0, 1)},
		// both from the west on
		{"a loop over itself, against its direction", example.Loops(1), poke(-2, -2, 1, true),
			example.Of([]int{1, -1}, 0, 1, 0, 4, 7, 2, 6, 5, 3), unpoke(0, 1)},
		// both outgoing, over: P and Q from the east on
		{"along, along, over", example.Trefoil(), poke(2, 6, 0, true), example.Of([]int{1, 1, 1, 1, -1}, 0,
			9, 4, 15, 10, 1, 8, 16, 19, 5, 0, 3, 14, 18, 17, 11, 2, 6, 13, 12, 7), unpoke(3, 4)},
		// P and Q from the west on
		{"along, against, over", example.Trefoil(), poke(1, 7, 0, true), example.Of([]int{1, 1, 1, -1, 1}, 0,
			9, 13, 12, 10, 17, 8, 11, 18, 5, 0, 3, 6, 2, 1, 16, 19, 14, 4, 7, 15), unpoke(3, 4)},
		// P from the north on, Q from the south on
		{"against, along, under", example.Trefoil(), poke(7, 1, 0, false), example.Of([]int{1, 1, 1, 1, -1}, 0,
			9, 17, 16, 10, 13, 8, 11, 14, 5, 0, 3, 6, 18, 4, 7, 19, 2, 1, 12, 15), unpoke(3, 4)},
		{"against, against, under", example.Trefoil(), poke(0, 8, 0, false), example.Of([]int{1, 1, 1, -1, 1}, 0,
			14, 4, 7, 10, 1, 13, 11, 2, 17, 16, 3, 6, 18, 5, 0, 19, 9, 8, 12, 15), unpoke(3, 4)},
		{"over itself, first", example.Trefoil(), poke(1, 1, 1, true), example.Of([]int{1, 1, 1, 1, -1}, 0,
			9, 15, 7, 10, 14, 8, 11, 2, 5, 0, 3, 6, 18, 17, 4, 1, 19, 13, 12, 16), unpoke(3, 4)},
		{"over itself, last", example.Trefoil(), poke(1, 1, -1, true), example.Of([]int{1, 1, 1, 1, -1}, 0,
			9, 16, 7, 10, 19, 8, 11, 2, 5, 0, 3, 6, 18, 17, 15, 14, 1, 13, 12, 4), unpoke(3, 4)},
		{"an edge over a loop", example.WithLoops(example.Trefoil(), 2), poke(1, -2, 0, true), example.Of([]int{1, 1, 1, -1, 1}, 1,
			9, 13, 7, 10, 17, 8, 11, 2, 5, 0, 3, 6, 18, 1, 16, 19, 14, 4, 12, 15), unpoke(3, 4)},
		// P from the south on, Q from the north on
		{"a loop under an edge", example.WithLoops(example.Trefoil(), 1), poke(-1, 3, 0, false), example.Of([]int{1, 1, 1, 1, -1}, 0,
			9, 4, 7, 19, 1, 8, 11, 2, 5, 0, 15, 6, 18, 17, 16, 10, 14, 13, 12, 3), unpoke(3, 4)},
		{"edges of different parts", example.Kinks(2), poke(1, 6, 0, true), example.Of([]int{1, 1, 1, -1}, 0,
			15, 11, 3, 2, 5, 4, 12, 10, 14, 13, 7, 1, 6, 9, 8, 0), unpoke(2, 3)},
	} {
		c.check(t)
	}
}

func TestUnpoke(t *testing.T) {
	for _, c := range []applied{
		// the least half-edge is 0: P from 0 on; Q is 4 (east) to 7
		{"two circles", example.Circles(1), unpoke(0, 1), example.Loops(2), poke(-1, -1, 0, true)},
		{"two circles, the other over strand", example.Circles(-1), unpoke(0, 1), example.Loops(2), poke(-2, -1, 0, true)},
		{"two circles and loops", example.WithLoops(example.Circles(1), 3), unpoke(0, 1), example.Loops(5), poke(-1, -1, 0, true)},
		{"up to MaxLoops", example.WithLoops(example.Circles(1), api.MaxLoops-2), unpoke(0, 1), example.Loops(api.MaxLoops), poke(-1, -1, 0, true)},
		{"a circle over itself", example.Of([]int{1, -1}, 0, 6, 5, 3, 2, 7, 1, 0, 4), unpoke(0, 1), example.Loops(1), poke(-1, -1, 1, true)},
		// the least half-edge is 1, with P 1 (east), 2, 3, 0 and Q 7, 4, 5, 6
		{"a circle under itself", example.Of([]int{-1, 1}, 0, 3, 5, 4, 0, 2, 1, 7, 6), unpoke(0, 1), example.Loops(1), poke(-1, -1, 1, false)},
		// the least half-edge is 2, with P 2 (east), 3, 0, 1 and Q 6, 7, 4, 5
		{"a circle over itself, against its direction", example.Of([]int{1, -1}, 0, 1, 0, 4, 7, 2, 6, 5, 3), unpoke(0, 1),
			example.Loops(1), poke(-2, -2, 1, true)},
		{"two edges", example.Of([]int{1, 1, 1, -1, 1}, 0,
			9, 13, 12, 10, 17, 8, 11, 18, 5, 0, 3, 6, 2, 1, 16, 19, 14, 4, 7, 15), unpoke(3, 4), example.Trefoil(), poke(1, 7, 0, true)},
		{"an edge over itself, first", example.Of([]int{1, 1, 1, 1, -1}, 0,
			9, 15, 7, 10, 14, 8, 11, 2, 5, 0, 3, 6, 18, 17, 4, 1, 19, 13, 12, 16), unpoke(3, 4), example.Trefoil(), poke(1, 1, 1, true)},
		{"an edge over itself, last", example.Of([]int{1, 1, 1, 1, -1}, 0,
			9, 16, 7, 10, 19, 8, 11, 2, 5, 0, 3, 6, 18, 17, 15, 14, 1, 13, 12, 4), unpoke(3, 4), example.Trefoil(), poke(1, 1, -1, true)},
		{"a loop as line", example.Of([]int{1, 1, 1, -1, 1}, 1,
			9, 13, 7, 10, 17, 8, 11, 2, 5, 0, 3, 6, 18, 1, 16, 19, 14, 4, 12, 15), unpoke(3, 4),
			example.WithLoops(example.Trefoil(), 2), poke(1, -2, 0, true)},
		// the least half-edge is 12, because the edge of the loop and the line are on a face, too: the loop is the line there
		{"a loop", example.Of([]int{1, 1, 1, 1, -1}, 0,
			9, 4, 7, 19, 1, 8, 11, 2, 5, 0, 15, 6, 18, 17, 16, 10, 14, 13, 12, 3), unpoke(3, 4),
			example.WithLoops(example.Trefoil(), 1), poke(10, -1, 0, true)},
		{"edges of different parts", example.Of([]int{1, 1, 1, -1}, 0,
			15, 11, 3, 2, 5, 4, 12, 10, 14, 13, 7, 1, 6, 9, 8, 0), unpoke(2, 3), example.Kinks(2), poke(1, 6, 0, true)},
		// the same with its crossings in the order 2, 0, 3, 1: X and Y are 5 and 14 before their crossings move down
		{"other numbers", example.Of([]int{1, 1, -1, 1}, 0,
			10, 9, 15, 5, 11, 3, 7, 6, 14, 1, 0, 4, 13, 12, 8, 2), unpoke(0, 2), example.Kinks(2), poke(1, 6, 0, true)},
	} {
		c.check(t)
	}
}
