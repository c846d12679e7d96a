package canon_test

import (
	"slices"

	"unravel/api"
	"unravel/diagram"
	"unravel/example"
)

// twisted is the closure of the braid on two strands with n crossings of one sign.
func twisted(n, sign int) api.Diagram {
	return closure(2, slices.Repeat([]int{sign}, n)...)
}

// closure is the diagram of a closed braid: k is a crossing of the positions k
// and k + 1 in which the strand from the left goes over, and -k one in which it
// goes under. Each position needs a crossing.
func closure(width int, letters ...int) api.Diagram {
	d := api.Diagram{Mate: make([]int, 4*len(letters))}
	join := func(out, in int) { d.Mate[out], d.Mate[in] = in, out }
	first, last := map[int]int{}, map[int]int{}
	enter := func(position, in int) {
		if out, met := last[position]; met {
			join(out, in)
		} else {
			first[position] = in
		}
	}
	for c, letter := range letters {
		left, sign, corner := letter, 1, 4*c+3
		if letter < 0 {
			left, sign, corner = -letter, -1, 4*c
		}
		d.Signs = append(d.Signs, sign)
		enter(left, corner)
		enter(left+1, diagram.Turn(corner, 1))
		last[left+1], last[left] = diagram.Turn(corner, 2), diagram.Turn(corner, 3)
	}
	for position := 1; position <= width; position++ {
		join(last[position], first[position])
	}
	return d
}

// beside puts the diagrams beside each other.
func beside(parts ...api.Diagram) api.Diagram {
	var all api.Diagram
	for _, d := range parts {
		shift := len(all.Mate)
		all.Signs = append(all.Signs, d.Signs...)
		for _, mate := range d.Mate {
			all.Mate = append(all.Mate, mate+shift)
		}
		all.Loops += d.Loops
	}
	return all
}

// copies is n times the same diagram.
func copies(n int, d api.Diagram) api.Diagram {
	return beside(slices.Repeat([]api.Diagram{d}, n)...)
}

// reversed changes the directions of all strands, so that the slots of each
// crossing are turned by two.
func reversed(d api.Diagram) api.Diagram {
	r := diagram.Clone(d)
	for h, mate := range d.Mate {
		r.Mate[diagram.Opposite(h)] = diagram.Opposite(mate)
	}
	return r
}

// reflected is the diagram seen from behind a mirror that stands upright.
func reflected(d api.Diagram) api.Diagram {
	image := func(h int) int { return h - h%4 + (4-h%4)%4 }
	r := diagram.Clone(d)
	for c := range r.Signs {
		r.Signs[c] = -d.Signs[c]
	}
	for h, mate := range d.Mate {
		r.Mate[image(h)] = image(mate)
	}
	return r
}

// renumbered is the diagram with its crossings in the given order.
func renumbered(d api.Diagram, order []int) api.Diagram {
	r, e := diagram.Renumber(d, order)
	if e != api.OK {
		panic("renumbered")
	}
	return r
}

// A sample is a diagram with its code and its symmetries.
type sample struct {
	d          api.Diagram
	code       []int
	symmetries int
}

// samples lists diagrams whose codes were found by hand, by names.
func samples() map[string]sample {
	onKink, onNegative := []int{1, 1, 1, 0, 3, 2}, []int{1, -1, 3, 2, 1, 0}
	onHopf := []int{2, 1, 5, 4, 7, 6, 1, 1, 0, 3, 2}
	onNegativeHopf := []int{2, -1, 7, 6, 5, 4, -1, 3, 2, 1, 0}
	onTrefoil := []int{3, 1, 5, 8, 11, 6, 1, 9, 0, 3, 10, 1, 1, 4, 7, 2}
	onLeftTrefoil := []int{3, -1, 7, 6, 9, 8, -1, 11, 10, 1, 0, -1, 3, 2, 5, 4}
	join := slices.Concat[[]int]
	return map[string]sample{
		"empty":              {api.Diagram{}, []int{0, 0}, 1},
		"empty slices":       {example.Of([]int{}, 0, []int{}...), []int{0, 0}, 1},
		"one loop":           {example.Loops(1), []int{1, 0}, 1},
		"MaxLoops":           {example.Loops(api.MaxLoops), []int{64, 0}, 1},
		"kink":               {example.Kink(), join([]int{0, 1}, onKink), 1},
		"negative kink":      {example.NegativeKink(), join([]int{0, 1}, onNegative), 1},
		"kink and loops":     {beside(example.Loops(2), example.Kink(), example.Loops(3)), join([]int{5, 1}, onKink), 1},
		"Hopf link":          {twisted(2, 1), join([]int{0, 1}, onHopf), 2},
		"negative Hopf link": {twisted(2, -1), join([]int{0, 1}, onNegativeHopf), 2},
		"trefoil":            {example.Trefoil(), join([]int{0, 1}, onTrefoil), 3},
		"left trefoil":       {twisted(3, -1), join([]int{0, 1}, onLeftTrefoil), 3},
		// the crossing 1 is the least of the negative ones, and equal to the crossing 2
		"figure-eight knot": {example.FigureEight(),
			[]int{0, 1, 4, -1, 5, 10, 9, 12, 1, 11, 0, 15, 14, -1, 13, 2, 1, 4, 1, 3, 8, 7, 6}, 2},
		// only the last crossing is negative, so that it gets the number 0
		"one crossing switched": {closure(2, 1, 1, -1), []int{0, 1, 3, -1, 6, 5, 8, 11, 1, 9, 1, 0, 10, 1, 2, 4, 7, 3}, 1},
		"nested kinks":          {example.Of([]int{1, 1}, 0, 5, 4, 3, 2, 1, 0, 7, 6), []int{0, 1, 2, 1, 5, 4, 3, 2, 1, 1, 0, 7, 6}, 2},
		"clasp":                 {example.Of([]int{1, -1}, 2, 6, 5, 4, 7, 2, 1, 0, 3), []int{2, 1, 2, -1, 6, 5, 4, 7, 1, 2, 1, 0, 3}, 1},
		// graph components in ascending order, first by their numbers of crossings
		"kinks of both signs": {beside(example.Kink(), example.NegativeKink()), join([]int{0, 2}, onNegative, onKink), 1},
		"three kinks":         {beside(example.Kink(), example.NegativeKink(), example.Kink()), join([]int{0, 3}, onNegative, onKink, onKink), 2},
		"less but larger":     {beside(twisted(2, -1), example.Kink()), join([]int{0, 2}, onKink, onNegativeHopf), 2},
		"two Hopf links":      {beside(twisted(2, 1), twisted(2, -1)), join([]int{0, 2}, onNegativeHopf, onHopf), 4},
		"descending": {beside(example.Trefoil(), twisted(3, -1), example.Loops(7), twisted(2, 1), example.Kink(), example.Trefoil()),
			join([]int{7, 5}, onKink, onHopf, onLeftTrefoil, onTrefoil, onTrefoil), 2 * 3 * 3 * 3 * 2},
		"alternating trefoils": {renumbered(beside(example.Trefoil(), example.Trefoil()), []int{0, 3, 1, 4, 2, 5}),
			join([]int{0, 2}, onTrefoil, onTrefoil), 3 * 3 * 2},
		"all limits": {beside(copies(api.MaxCrossings, example.Kink()), example.Loops(api.MaxLoops)),
			join([]int{64, 64}, slices.Repeat(onKink, api.MaxCrossings)), 1 << 40},
	}
}

// larger lists diagrams whose codes are too long for a look at them, by names.
func larger() map[string]api.Diagram {
	return map[string]api.Diagram{
		"Borromean rings":        closure(3, 1, -2, 1, -2, 1, -2),
		"five twists":            twisted(5, 1),
		"five negative twists":   twisted(5, -1),
		"6_1":                    closure(4, 1, 1, 2, -1, -3, 2, -3),
		"6_2":                    closure(3, 1, 1, 1, -2, 1, -2),
		"6_3":                    closure(3, 1, 1, -2, 1, -2, -2),
		"8_19":                   closure(3, 1, 1, 1, 2, 1, 1, 1, 2),
		"twelve crossings":       closure(4, 1, -2, 3, 2, -1, 3, 3, -2, 1, 1, -3, 2),
		"sixteen, two symmetric": closure(4, 1, -2, 3, 3, 2, -1, 3, -2, 1, -2, 3, 3, 2, -1, 3, -2),
		"MaxCrossings":           twisted(api.MaxCrossings, 1),
		"MaxCrossings, negative": twisted(api.MaxCrossings, -1),
		"MaxCrossings, woven":    closure(3, slices.Repeat([]int{1, -2}, api.MaxCrossings/2)...),
		"MaxCrossings, one odd":  closure(2, append(slices.Repeat([]int{1}, api.MaxCrossings-1), -1)...),
		"MaxCrossings, mixed":    closure(5, slices.Repeat([]int{1, -2, 3, 4, -3, 2, -1, -4}, api.MaxCrossings/8)...),
		"parts": beside(example.FigureEight(), closure(3, 1, -2, 1, -2, 1, -2), example.Loops(3), example.NegativeKink(), reflected(example.Trefoil()),
			twisted(4, -1), example.FigureEight(), example.Kink(), closure(2, 1, -1), closure(3, 1, 2), closure(3, 1, 1, 2, -1)),
	}
}

// everyDiagram lists the diagrams of samples and larger, by names.
func everyDiagram() map[string]api.Diagram {
	all := larger()
	for name, s := range samples() {
		all[name] = s.d
	}
	return all
}

// orders lists some permutations of 0 to n - 1, the first of which moves nothing.
func orders(n int) [][]int {
	var all [][]int
	for _, step := range []int{1, 5, 7, 11, n - 1} {
		for _, shift := range []int{0, 3} {
			order, met := []int{}, map[int]bool{}
			for i := range n {
				if c := (step*i + shift) % n; !met[c] {
					order, met[c] = append(order, c), true
				}
			}
			if len(order) == n {
				all = append(all, order)
			}
		}
	}
	return all
}

// everyOrder visits all permutations of 0 to n - 1.
func everyOrder(n int, visit func(order []int)) {
	order := make([]int, n)
	for i := range order {
		order[i] = i
	}
	var permute func(int)
	permute = func(i int) {
		if i == n {
			visit(order)
			return
		}
		for k := i; k < n; k++ {
			order[i], order[k] = order[k], order[i]
			permute(i + 1)
			order[i], order[k] = order[k], order[i]
		}
	}
	permute(0)
}
