package diagram_test

import (
	"testing"

	"unravel/api"
	"unravel/diagram"
)

func TestValid(t *testing.T) {
	for name, d := range valid() {
		if !diagram.Valid(d) {
			t.Errorf("%s: not valid", name)
		}
	}
	for name, d := range invalid() {
		if diagram.Valid(d) {
			t.Errorf("%s: valid", name)
		}
	}
}

// Of all that one crossing and four mates may be, only the two kinks are valid.
func TestValidWithOneCrossing(t *testing.T) {
	numbers := []int{-1, 0, 1, 2, 3, 4}
	for _, sign := range []int{-2, -1, 0, 1, 2} {
		for i := range 6 * 6 * 6 * 6 {
			mate := []int{numbers[i%6], numbers[i/6%6], numbers[i/36%6], numbers[i/216]}
			d := api.Diagram{Signs: []int{sign}, Mate: mate}
			want := diagram.Equal(d, kink()) || diagram.Equal(d, negativeKink())
			if diagram.Valid(d) != want {
				t.Errorf("%v: Valid is not %t", d, want)
			}
		}
	}
}

// Every way to pair the half-edges of few crossings, with all signs.
func TestValidForAllPairings(t *testing.T) {
	for n, want := range []int{1, 2, 24, 656} {
		count := 0
		everyPairing(n, func(d api.Diagram) {
			drawable := directed(d) && eulerCharacteristicOfSpheres(d)
			if diagram.Valid(d) != drawable {
				t.Fatalf("%v: Valid is not %t", d, drawable)
			}
			if drawable {
				count++
			}
		})
		if count != want {
			t.Errorf("%d crossings: %d valid diagrams, not %d", n, count, want)
		}
	}
}

func everyPairing(n int, visit func(api.Diagram)) {
	for bits := range 1 << n {
		d := api.Diagram{Signs: make([]int, n), Mate: make([]int, 4*n)}
		for c := range n {
			d.Signs[c] = 1 - bits>>c&1*2
		}
		for h := range d.Mate {
			d.Mate[h] = -1
		}
		pairRest(d, visit)
	}
}

func pairRest(d api.Diagram, visit func(api.Diagram)) {
	first := 0
	for first < len(d.Mate) && d.Mate[first] >= 0 {
		first++
	}
	if first == len(d.Mate) {
		visit(d)
		return
	}
	for h := first + 1; h < len(d.Mate); h++ {
		if d.Mate[h] < 0 {
			join(d, first, h)
			pairRest(d, visit)
			d.Mate[first], d.Mate[h] = -1, -1
		}
	}
}

func directed(d api.Diagram) bool {
	for h, mate := range d.Mate {
		if isOut(d, h) == isOut(d, mate) {
			return false
		}
	}
	return true
}

func isOut(d api.Diagram, h int) bool {
	return h%4 == 2 || h%4 == 1 && d.Signs[h/4] == 1 || h%4 == 3 && d.Signs[h/4] == -1
}

// eulerCharacteristicOfSpheres counts the faces as classes of corners that lie
// at the same side of an edge: the corner h is between h and the next slot.
func eulerCharacteristicOfSpheres(d api.Diagram) bool {
	faces, parts := newClasses(len(d.Mate)), newClasses(len(d.Signs))
	for h, mate := range d.Mate {
		faces.merge(h, mate/4*4+(mate+3)%4)
		parts.merge(h/4, mate/4)
	}
	for c := range d.Signs {
		crossings, around := 0, map[int]bool{}
		for h := range d.Mate {
			if parts.of(h/4) == parts.of(c) {
				around[faces.of(h)] = true
			}
		}
		for b := range d.Signs {
			if parts.of(b) == parts.of(c) {
				crossings++
			}
		}
		if crossings-2*crossings+len(around) != 2 {
			return false
		}
	}
	return true
}

type classes []int

func newClasses(n int) classes {
	c := make(classes, n)
	for i := range c {
		c[i] = i
	}
	return c
}

func (c classes) of(i int) int { return c[i] }

func (c classes) merge(i, k int) {
	from, to := c[i], c[k]
	for j := range c {
		if c[j] == from {
			c[j] = to
		}
	}
}

func TestEqual(t *testing.T) {
	different := []api.Diagram{
		{},
		loops(1),
		loops(-1),
		{Signs: []int{1}},
		{Signs: []int{0}},
		{Signs: []int{1, 1}},
		{Mate: []int{0}},
		{Mate: []int{1}},
		{Mate: []int{1, 0}},
		kink(),
		negativeKink(),
		genusOne(),
		beside(kink(), loops(1)),
		trefoil(),
		twisted(3, -1),
		twisted(api.MaxCrossings+1, 1),
	}
	for i, a := range different {
		for k, b := range different {
			if diagram.Equal(a, b) != (i == k) {
				t.Errorf("Equal(%v, %v) is not %t", a, b, i == k)
			}
		}
	}
	for _, loops := range []int{-1, 0, 3} {
		a := api.Diagram{Loops: loops}
		b := api.Diagram{Signs: []int{}, Mate: []int{}, Loops: loops}
		if !diagram.Equal(a, b) || !diagram.Equal(b, a) {
			t.Errorf("%d loops: nil and empty slices differ", loops)
		}
	}
}

func TestClone(t *testing.T) {
	for _, list := range []func() map[string]api.Diagram{valid, invalid} {
		untouched := list()
		for name, d := range list() {
			c := diagram.Clone(d)
			if !diagram.Equal(c, d) {
				t.Errorf("%s: the clone differs", name)
			}
			overwrite(c.Signs)
			overwrite(c.Mate)
			if !diagram.Equal(d, untouched[name]) {
				t.Errorf("%s: the clone shares memory with it", name)
			}
		}
	}
}

// A slice with room behind its end must not share that room either.
func TestCloneSharesNoRoom(t *testing.T) {
	signs, mate := append(make([]int, 0, 9), 1), append(make([]int, 0, 9), 1, 0, 3, 2)
	c := diagram.Clone(api.Diagram{Signs: signs, Mate: mate})
	overwrite(c.Signs)
	overwrite(c.Mate)
	if signs[:2][1] != 0 || mate[:5][4] != 0 {
		t.Error("the clone shares memory")
	}
}

// overwrite changes all the memory that can be reached through a slice.
func overwrite(list []int) {
	list = list[:cap(list)]
	for i := range list {
		list[i] = 77
	}
}
