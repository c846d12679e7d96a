package diagram_test

import (
	"slices"

	"unravel/api"
	"unravel/diagram"
)

func trefoil() api.Diagram {
	return api.Diagram{Signs: []int{1, 1, 1}, Mate: []int{9, 4, 7, 10, 1, 8, 11, 2, 5, 0, 3, 6}}
}

func kink() api.Diagram {
	return api.Diagram{Signs: []int{1}, Mate: []int{1, 0, 3, 2}}
}

func negativeKink() api.Diagram {
	return api.Diagram{Signs: []int{-1}, Mate: []int{3, 2, 1, 0}}
}

// genusOne has one crossing and can be drawn on a torus only.
func genusOne() api.Diagram {
	return api.Diagram{Signs: []int{1}, Mate: []int{2, 3, 0, 1}}
}

func figureEight() api.Diagram {
	return weave([]int{1, -1, -1, 1}, []int{1, -2, 3, -1, 4, -3, 2, -4})
}

func borromean() api.Diagram {
	signs := []int{-1, -1, 1, 1, -1, 1}
	return weave(signs, []int{1, -2, 3, -4}, []int{-3, 5, -1, 6}, []int{2, -5, 4, -6})
}

// twisted is the closure of the braid on two strands with n crossings of one sign.
func twisted(n, sign int) api.Diagram {
	d := api.Diagram{Signs: slices.Repeat([]int{sign}, n), Mate: make([]int, 4*n)}
	for c := range n {
		below := 4 * ((c + 1) % n)
		if sign == 1 {
			join(d, 4*c+1, below)
			join(d, 4*c+2, below+3)
		} else {
			join(d, 4*c+3, below)
			join(d, 4*c+2, below+1)
		}
	}
	return d
}

func join(d api.Diagram, g, h int) {
	d.Mate[g], d.Mate[h] = h, g
}

// weave makes a diagram from the passages of its strands: k is the passage
// over the crossing k - 1, and -k the one under it.
func weave(signs []int, strands ...[]int) api.Diagram {
	d := api.Diagram{Signs: signs, Mate: make([]int, 4*len(signs))}
	for _, strand := range strands {
		for i, passage := range strand {
			_, out := ends(signs, passage)
			in, _ := ends(signs, strand[(i+1)%len(strand)])
			join(d, out, in)
		}
	}
	return d
}

// ends returns the incoming and the outgoing half-edge of a passage.
func ends(signs []int, passage int) (in, out int) {
	if passage < 0 {
		return 4 * (-passage - 1), 4*(-passage-1) + 2
	}
	c := passage - 1
	if signs[c] == 1 {
		return 4*c + 3, 4*c + 1
	}
	return 4*c + 1, 4*c + 3
}

// beside puts the diagrams beside each other.
func beside(parts ...api.Diagram) api.Diagram {
	var all api.Diagram
	for _, d := range parts {
		shift := len(all.Mate)
		all.Signs = append(all.Signs, d.Signs...)
		for _, mate := range d.Mate {
			all.Mate = append(all.Mate, mate+shift)
		}
		all.Loops += d.Loops
	}
	return all
}

// kinks is as many crossings as graph components.
func kinks(n int) api.Diagram {
	return beside(slices.Repeat([]api.Diagram{kink()}, n)...)
}

func loops(n int) api.Diagram {
	return api.Diagram{Loops: n}
}

// mixed alternates the crossings of two trefoils, so that the graph components
// are not ranges of crossings.
func mixed() api.Diagram {
	d, e := diagram.Renumber(beside(trefoil(), trefoil()), []int{0, 3, 1, 4, 2, 5})
	if e != api.OK {
		panic("mixed")
	}
	return d
}

// valid lists diagrams that are valid, by names.
func valid() map[string]api.Diagram {
	return map[string]api.Diagram{
		"empty":              {},
		"empty slices":       {Signs: []int{}, Mate: []int{}},
		"one loop":           loops(1),
		"MaxLoops":           loops(api.MaxLoops),
		"kink":               kink(),
		"negative kink":      negativeKink(),
		"Hopf link":          twisted(2, 1),
		"negative Hopf link": twisted(2, -1),
		"trefoil":            trefoil(),
		"left trefoil":       twisted(3, -1),
		"figure-eight knot":  figureEight(),
		"Borromean rings":    borromean(),
		"unlinked clasp":     weave([]int{1, -1}, []int{1, 2}, []int{-1, -2}),
		"parts and loops":    beside(twisted(4, -1), loops(2), borromean(), negativeKink(), loops(1)),
		"mixed":              mixed(),
		"MaxCrossings":       twisted(api.MaxCrossings, 1),
		"all limits":         beside(kinks(api.MaxCrossings), loops(api.MaxLoops)),
	}
}

// invalid lists diagrams that are not valid, by names.
func invalid() map[string]api.Diagram {
	const least, greatest = -1 << 63, 1<<63 - 1
	mates := func(mate ...int) api.Diagram { return api.Diagram{Signs: []int{1}, Mate: mate} }
	hopf := func(mate ...int) api.Diagram { return api.Diagram{Signs: []int{1, 1}, Mate: mate} }
	sign := func(sign int) api.Diagram { return api.Diagram{Signs: []int{sign}, Mate: kink().Mate} }
	return map[string]api.Diagram{
		"sign 0":                      sign(0),
		"sign 2":                      sign(2),
		"sign -2":                     sign(-2),
		"least sign":                  sign(least),
		"the other sign":              sign(-1),
		"one wrong sign of three":     {Signs: []int{1, 1, 3}, Mate: trefoil().Mate},
		"no mates":                    mates(),
		"too few mates":               mates(1, 0, 3),
		"too many mates":              mates(1, 0, 3, 2, 5, 4),
		"mates of another crossing":   mates(1, 0, 3, 2, 5, 4, 7, 6),
		"mates without crossings":     {Mate: []int{1, 0}},
		"signs without mates":         {Signs: []int{1, 1}},
		"mate -1":                     mates(-1, 0, 3, 2),
		"mate 4":                      mates(1, 0, 3, 4),
		"least mate":                  mates(1, 0, 3, least),
		"greatest mate":               mates(greatest, 0, 3, 2),
		"own mates":                   mates(0, 1, 2, 3),
		"two own mates":               mates(1, 0, 2, 3),
		"mates in a cycle":            hopf(5, 4, 7, 6, 0, 1, 3, 2),
		"all mates equal":             mates(1, 1, 1, 1),
		"two mates with one mate":     mates(1, 0, 3, 0),
		"paired in with in":           mates(3, 2, 1, 0),
		"paired out with out":         hopf(5, 6, 7, 4, 3, 0, 1, 2),
		"genus 1":                     genusOne(),
		"genus 1, two crossings":      weave([]int{1, 1}, []int{1, 2, -1, -2}),
		"genus 1, signs of a trefoil": {Signs: []int{1, 1, 1}, Mate: weave([]int{1, 1, 1}, []int{1, 2, 3, -1, -2, -3}).Mate},
		"genus 1 beside a sphere":     beside(trefoil(), genusOne()),
		"a sphere beside genus 1":     beside(genusOne(), figureEight(), kink()),
		"genus 1 twice":               beside(genusOne(), genusOne()),
		"-1 loops":                    loops(-1),
		"least loops":                 loops(least),
		"greatest loops":              loops(greatest),
		"too many loops":              loops(api.MaxLoops + 1),
		"trefoil and -1 loops":        beside(trefoil(), loops(-1)),
		"trefoil and too many loops":  beside(trefoil(), loops(api.MaxLoops+1)),
		"too many crossings":          twisted(api.MaxCrossings+1, 1),
		"too many kinks":              kinks(api.MaxCrossings + 1),
		"far too many crossings":      twisted(100*api.MaxCrossings, -1),
		"faces that never close":      {Signs: []int{1, 1}, Mate: []int{5, 4, 7, 6, 1, 0, 0, 0}},
	}
}
