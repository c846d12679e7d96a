package moves_test

import (
	"testing"

	"unravel/api"
	"unravel/diagram"
	"unravel/example"
	"unravel/moves"
)

// applied is a move with all that Apply should return for it.
type applied struct {
	name    string
	d       api.Diagram
	m       api.Move
	changed api.Diagram
	back    api.Move
}

func (c applied) check(t *testing.T) {
	t.Helper()
	got, back, e := moves.Apply(c.d, c.m)
	if e != api.OK || !diagram.Equal(got, c.changed) {
		t.Errorf("%s: %v, %d", c.name, got, e)
	}
	if back != c.back {
		t.Errorf("%s: the inverse %v", c.name, back)
	}
}

func curl(x, sign int, over bool) api.Move {
	return api.Move{Kind: api.Curl, X: x, Sign: sign, Over: over}
}

func uncurl(x int) api.Move { return api.Move{Kind: api.Uncurl, X: x} }

func TestCurl(t *testing.T) {
	for _, c := range []applied{
		{"a loop, the sign 1", example.Loops(1), curl(-1, 1, false), example.Kink(), uncurl(0)},
		{"a loop, the sign 1, over first", example.Loops(1), curl(-1, 1, true), example.Kink(), uncurl(0)},
		{"a loop, the sign -1", example.Loops(1), curl(-1, -1, false), example.NegativeKink(), uncurl(0)},
		{"a loop, the sign -1, over first", example.Loops(1), curl(-1, -1, true), example.NegativeKink(), uncurl(0)},
		{"one of many loops", example.Loops(api.MaxLoops), curl(-1, -1, true), example.WithLoops(example.NegativeKink(), api.MaxLoops-1), uncurl(0)},
		// in0 to out1: 4, 6, 7, 5
		{"the sign 1", example.Kink(), curl(1, 1, false), example.Of([]int{1, 1}, 0, 5, 4, 3, 2, 1, 0, 7, 6), uncurl(1)},
		// 7, 5, 4, 6
		{"the sign 1, over first", example.Kink(), curl(1, 1, true), example.Of([]int{1, 1}, 0, 6, 7, 3, 2, 5, 4, 0, 1), uncurl(1)},
		// 4, 6, 5, 7
		{"the sign -1", example.Kink(), curl(2, -1, false), example.Of([]int{1, -1}, 0, 1, 0, 4, 7, 2, 6, 5, 3), uncurl(1)},
		// 5, 7, 4, 6
		{"the sign -1, over first", example.WithLoops(example.Kink(), 1), curl(2, -1, true),
			example.Of([]int{1, -1}, 1, 1, 0, 5, 6, 7, 2, 3, 4), uncurl(1)},
		{"an outgoing half-edge in slot 3", example.NegativeKink(), curl(3, 1, false),
			example.Of([]int{-1, 1}, 0, 5, 2, 1, 4, 3, 0, 7, 6), uncurl(1)},
		{"a loop beside a kink", example.WithLoops(example.Kink(), 1), curl(-1, 1, true),
			example.Of([]int{1, 1}, 0, 1, 0, 3, 2, 5, 4, 7, 6), uncurl(1)},
	} {
		c.check(t)
	}
}

func TestUncurl(t *testing.T) {
	// the edges of the trefoil from 9 on, with the kinks 0 and 4: 9 -> 0 (under), 2 -> 3 (over), 1 -> 16 (under),
	// 18 -> 17 (over), 19 -> 4, with the other crossings moved up by one
	twoKinks := example.Of([]int{1, 1, 1, 1, -1}, 0,
		13, 16, 3, 2, 19, 8, 11, 14, 5, 12, 15, 6, 9, 0, 7, 10, 1, 18, 17, 4)
	for _, c := range []applied{
		{"all edges in one crossing, the slot 2 is used", example.Kink(), uncurl(0), example.Loops(1), curl(-1, 1, false)},
		{"the sign -1", example.WithLoops(example.NegativeKink(), 2), uncurl(0), example.Loops(3), curl(-1, -1, false)},
		{"MaxLoops is reached", example.WithLoops(example.Kink(), api.MaxLoops-1), uncurl(0), example.Loops(api.MaxLoops), curl(-1, 1, false)},
		{"one of two circles", example.Of([]int{-1, 1}, 0, 3, 2, 1, 0, 5, 4, 7, 6), uncurl(0), example.WithLoops(example.Kink(), 1), curl(-1, -1, false)},
		{"the second kink of two", example.Of([]int{1, 1}, 0, 5, 4, 3, 2, 1, 0, 7, 6), uncurl(1), example.Kink(), curl(1, 1, false)},
		{"the first kink of two, after which numbers shift", example.Of([]int{1, 1}, 0, 5, 4, 3, 2, 1, 0, 7, 6), uncurl(0),
			example.Kink(), curl(1, 1, false)},
		{"over first", example.Of([]int{1, 1}, 0, 6, 7, 3, 2, 5, 4, 0, 1), uncurl(1), example.Kink(), curl(1, 1, true)},
		{"the sign -1, over first", example.Of([]int{1, -1}, 1, 1, 0, 5, 6, 7, 2, 3, 4), uncurl(1),
			example.WithLoops(example.Kink(), 1), curl(2, -1, true)},
		{"first in a strand of a trefoil", twoKinks, uncurl(0),
			example.Of([]int{1, 1, 1, -1}, 0, 15, 4, 7, 10, 1, 8, 11, 2, 5, 12, 3, 6, 9, 14, 13, 0), curl(9, 1, false)},
		{"last in a strand of a trefoil", twoKinks, uncurl(4),
			example.Of([]int{1, 1, 1, 1}, 0, 13, 4, 3, 2, 1, 8, 11, 14, 5, 12, 15, 6, 9, 0, 7, 10), curl(1, -1, false)},
	} {
		c.check(t)
	}
}
