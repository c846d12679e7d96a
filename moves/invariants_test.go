package moves_test

import (
	"slices"
	"testing"

	"unravel/api"
	"unravel/diagram"
	"unravel/example"
	"unravel/moves"
)

// Moves are the Reidemeister moves: they keep what is known to be the same for
// all diagrams of a link.

// The Jones polynomial is evaluated at one number modulo a prime.
const (
	prime = 1000003
	atA   = 12345
)

// power takes negative exponents: the power prime - 1 of a number is 1.
func power(base, exponent int) int {
	result := 1
	for e := (exponent + prime - 1) % (prime - 1); e > 0; e /= 2 {
		if e%2 == 1 {
			result = result * base % prime
		}
		base = base * base % prime
	}
	return result
}

// circles counts the circles of a state: bit c of it tells how the half-edges at
// the crossing c are connected.
func circles(d api.Diagram, state int) int {
	seen := make([]bool, len(d.Mate))
	across := func(h int) int {
		if state>>(h/4)&1 == 0 {
			return h ^ 1
		}
		return h ^ 3
	}
	count := d.Loops
	for h := range d.Mate {
		if seen[h] {
			continue
		}
		count++
		for g := h; !seen[g]; g = d.Mate[across(g)] {
			seen[g], seen[across(g)] = true, true
		}
	}
	return count
}

func jonesAtA(d api.Diagram, powersOfA, powersOfCircle []int) int {
	sum := 0
	n := len(d.Signs)
	for state := range 1 << n {
		a := n
		for c := range n {
			a -= 2 * (state >> c & 1)
		}
		sum += powersOfA[a+64] * powersOfCircle[circles(d, state)] % prime
	}
	writhe := sumOfSigns(d)
	turn := powersOfA[64-3*writhe]
	if writhe%2 != 0 {
		turn = prime - turn
	}
	return sum % prime * turn % prime
}

// newJones makes the tables of powers once.
func newJones() func(d api.Diagram) int {
	var powersOfA, powersOfCircle []int
	for k := -64; k <= 64; k++ {
		powersOfA = append(powersOfA, power(atA, k))
	}
	circle := 2*prime - power(atA, 2) - power(atA, -2)
	for k := range 64 {
		powersOfCircle = append(powersOfCircle, power(circle%prime, k))
	}
	return func(d api.Diagram) int { return jonesAtA(d, powersOfA, powersOfCircle) }
}

// linkingNumbers lists the sums of the signs between two strands, sorted, without
// zeros: a strand can become a loop.
func linkingNumbers(d api.Diagram) []int {
	strandOf := map[int]int{}
	for k, strand := range diagram.Strands(d) {
		for _, out := range strand {
			strandOf[out] = k
		}
	}
	sums := map[[2]int]int{}
	for c, sign := range d.Signs {
		under, over := strandOf[4*c+2], strandOf[diagram.Turn(4*c, sign)]
		if under != over {
			sums[[2]int{min(under, over), max(under, over)}] += sign
		}
	}
	var list []int
	for _, sum := range sums {
		if sum != 0 {
			list = append(list, sum)
		}
	}
	slices.Sort(list)
	return list
}

func TestInvariants(t *testing.T) {
	jones := newJones()
	compare := func(d api.Diagram) {
		value, numbers := jones(d), linkingNumbers(d)
		for _, m := range moves.All(d) {
			changed, _ := applyOne(t, d, m)
			if jones(changed) != value {
				t.Fatalf("%v: %v: another Jones polynomial", d, m)
			}
			if !slices.Equal(linkingNumbers(changed), numbers) {
				t.Fatalf("%v: %v: other linking numbers", d, m)
			}
		}
	}
	everyClass(compare)
	for _, d := range example.Small() {
		if len(d.Signs) <= 6 {
			compare(d)
		}
	}
}

// The numbers at the trefoil, its mirror image, and the figure-eight knot differ
// from that at a loop, so that the comparison means something.
func TestTheInvariantDistinguishes(t *testing.T) {
	jones := newJones()
	values := map[int]bool{}
	for _, d := range []api.Diagram{
		example.Loops(1), example.Trefoil(), example.Twisted(3, -1), example.FigureEight(),
		example.Hopf(), example.Twisted(2, -1), example.Loops(2),
	} {
		values[jones(d)] = true
	}
	if len(values) != 7 {
		t.Error(values)
	}
}

// The moves of a walk are chosen by a fixed rule that goes through all kinds, as
// far as the crossings allow it.
func TestInvariantsOnLongWalks(t *testing.T) {
	jones := newJones()
	for name, first := range example.Small() {
		if len(first.Signs) > 8 {
			continue
		}
		d, value, numbers := first, jones(first), linkingNumbers(first)
		slides := 0
		for step := range 60 {
			m, ok := chosen(d, step)
			if !ok {
				break
			}
			checkInverse(t, d, m)
			d, _ = applyOne(t, d, m)
			if m.Kind == api.Slide {
				slides++
			}
			if step%5 == 0 && (jones(d) != value || !slices.Equal(linkingNumbers(d), numbers)) {
				t.Fatalf("%s: after %d moves: %v", name, step+1, d)
			}
		}
		if diagram.Components(first) > 0 && slides == 0 {
			t.Errorf("%s: no slides", name)
		}
	}
}

// chosen prefers a Slide at every third step, and removes crossings of a diagram
// that has many.
func chosen(d api.Diagram, step int) (api.Move, bool) {
	all := moves.All(d)
	switch {
	case step%3 == 2 && len(moves.Slides(d)) > 0:
		all = moves.Slides(d)
	case len(d.Signs) > 8 && len(moves.Removing(d)) > 0:
		all = moves.Removing(d)
	case len(d.Signs) > 8 && len(moves.Slides(d)) > 0:
		all = moves.Slides(d)
	}
	if len(all) == 0 {
		return api.Move{}, false
	}
	return all[(step*step*7919+step*104729)%len(all)], true
}
