package diagram

import (
	"unravel/api"
)

func Face(d api.Diagram, h int) []int {
	if !Valid(d) || !isHalfEdge(d, h) {
		return nil
	}
	return cycle(h, func(g int) int { return nextOfFace(d, g) })
}

func Faces(d api.Diagram) [][]int {
	if !Valid(d) {
		return nil
	}
	every := func(int) bool { return true }
	return cycles(len(d.Mate), every, func(h int) int { return nextOfFace(d, h) })
}

func Strands(d api.Diagram) [][]int {
	if !Valid(d) {
		return nil
	}
	isOut := func(h int) bool { return outgoing(d, h) }
	return cycles(len(d.Mate), isOut, func(h int) int { return nextOfStrand(d, h) })
}

func Components(d api.Diagram) int {
	if !Valid(d) {
		return 0
	}
	return len(Strands(d)) + d.Loops
}

// cycle ends because next is a permutation: it leads back to first.
func cycle(first int, next func(int) int) []int {
	members := []int{first}
	for h := next(first); h != first; h = next(h) {
		members = append(members, h)
	}
	return members
}

// cycles collects the cycles of the wanted numbers below n. It meets the
// numbers in ascending order, so each cycle begins with its least one.
func cycles(n int, wanted func(int) bool, next func(int) int) [][]int {
	var found [][]int
	seen := make([]bool, n)
	for h := range n {
		if seen[h] || !wanted(h) {
			continue
		}
		members := cycle(h, next)
		for _, g := range members {
			seen[g] = true
		}
		found = append(found, members)
	}
	return found
}
