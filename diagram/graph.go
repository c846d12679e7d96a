package diagram

import (
	"unravel/api"
)

func Graph(d api.Diagram) [][]int {
	if !Valid(d) {
		return nil
	}
	var parts [][]int
	var place [api.MaxCrossings]int
	least := leastConnected(d)
	for c := range len(d.Signs) {
		if least[c] == c {
			place[c] = len(parts)
			parts = append(parts, nil)
		}
		k := place[least[c]]
		parts[k] = append(parts[k], c)
	}
	return parts
}

// leastConnected gives for each crossing the least one of its graph component,
// which stands for that component.
func leastConnected(d api.Diagram) [api.MaxCrossings]int {
	var least [api.MaxCrossings]int
	for c := range len(d.Signs) {
		least[c] = c
	}
	find := func(c int) int {
		for least[c] != c {
			c = least[c]
		}
		return c
	}
	for h := range len(d.Mate) {
		a, b := find(h/4), find(d.Mate[h]/4)
		least[max(a, b)] = min(a, b)
	}
	for c := range len(d.Signs) {
		least[c] = find(c)
	}
	return least
}

// spherical reports whether each graph component has two more faces than
// crossings. It counts the faces instead of collecting them, for the sake of
// Valid.
func spherical(d api.Diagram) bool {
	least := leastConnected(d)
	var surplus [api.MaxCrossings]int
	var seen [4 * api.MaxCrossings]bool
	for h := range len(d.Mate) {
		if !seen[h] {
			surplus[least[h/4]]++
		}
		for g := h; !seen[g]; g = nextOfFace(d, g) {
			seen[g] = true
		}
	}
	for c := range len(d.Signs) {
		surplus[least[c]]--
	}
	for c := range len(d.Signs) {
		if surplus[least[c]] != 2 {
			return false
		}
	}
	return true
}
