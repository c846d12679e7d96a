package gauss

import (
	"unravel/api"
	"unravel/diagram"
)

func Genus(c Code) (int, api.Errno) {
	if !Valid(c) {
		return 0, api.ErrArg
	}
	return genus(mates(c)), api.OK
}

// genus adds up the graph components: each has an even number of 2 + v - f, so
// the sum may be halved as a whole. The faces and graph components are counted
// here because layer 1 has none for mates that cannot be drawn on a sphere.
func genus(mate []int) int {
	return (2*countParts(mate) + len(mate)/4 - countFaces(mate)) / 2
}

func countFaces(mate []int) int {
	count := 0
	seen := make([]bool, len(mate))
	for h := range mate {
		if !seen[h] {
			count++
		}
		for g := h; !seen[g]; g = diagram.Turn(mate[g], -1) {
			seen[g] = true
		}
	}
	return count
}

// countParts starts with every crossing by itself; each edge that connects two
// graph components leaves one less.
func countParts(mate []int) int {
	count := len(mate) / 4
	least := make([]int, count)
	for c := range least {
		least[c] = c
	}
	find := func(c int) int {
		for least[c] != c {
			c = least[c]
		}
		return c
	}
	for h, m := range mate {
		a, b := find(h/4), find(m/4)
		if a != b {
			least[max(a, b)] = min(a, b)
			count--
		}
	}
	return count
}
