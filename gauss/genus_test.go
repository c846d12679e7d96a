package gauss_test

import (
	"slices"
	"testing"

	"unravel/api"
	"unravel/gauss"
)

type genusOf struct {
	c    gauss.Code
	want int
}

// genera lists codes with their genera, most of them greater than 0.
func genera() []genusOf {
	plus := func(n int) []int { return slices.Repeat([]int{1}, n) }
	crossed := code(plus(api.MaxCrossings), 0)
	apart := code(plus(api.MaxCrossings), api.MaxLoops)
	for c := 0; c < api.MaxCrossings; c += 2 {
		crossed.Comps = append(crossed.Comps, []gauss.Visit{over(c), over(c + 1), under(c), under(c + 1)})
	}
	for c := range api.MaxCrossings {
		apart.Comps = append(apart.Comps, []gauss.Visit{over(c)}, []gauss.Visit{under(c)})
	}
	return []genusOf{
		{gauss.Code{}, 0},
		{code(nil, api.MaxLoops), 0},
		{code(plus(1), 0, []int{1, -1}), 0},
		{code(plus(1), 0, []int{1}, []int{-1}), 1},
		{code([]int{-1}, 5, []int{-1}, []int{1}), 1},
		{code(plus(2), 0, []int{1, 2, -1, -2}), 1},
		{code([]int{1, -1}, 0, []int{1, 2, -1, -2}), 1},
		{code(plus(2), 0, []int{1, -1, 2, -2}), 0},
		{code(plus(2), 0, []int{1, -1}, []int{2, -2}), 0},
		{code(plus(2), 0, []int{1, -2}, []int{-1, 2}), 0},
		{code(plus(2), 0, []int{1, 2}, []int{-1, -2}), 1},
		{code([]int{1, -1}, 0, []int{1, 2}, []int{-1, -2}), 0},
		{code(plus(3), 0, []int{1, 2, 3, -1, -2, -3}), 1},
		{code([]int{1, 1, -1}, 0, []int{1, -2, 3, -1, 2, -3}), 1},
		// the trefoil beside a code of genus 1, in both orders
		{code(plus(5), 1, []int{1, -2, 3, -1, 2, -3}, []int{4, 5, -4, -5}), 1},
		{code(plus(5), 0, []int{1, 2, -1, -2}, []int{3, -4, 5, -3, 4, -5}), 1},
		{code(plus(4), 0, []int{1, 2, -1, -2}, []int{3, 4, -3, -4}), 2},
		{code(plus(4), 0, []int{1, 2, -1, -2, 3, 4, -3, -4}), 2},
		{crossed, api.MaxCrossings / 2},
		{apart, api.MaxCrossings},
	}
}

func TestGenus(t *testing.T) {
	for _, g := range genera() {
		if got, e := gauss.Genus(g.c); e != api.OK || got != g.want {
			t.Errorf("%v: the genus %d, %d", g.c, got, e)
		}
		if by := genusByCorners(g.c); by != g.want {
			t.Errorf("%v: the genus %d by corners", g.c, by)
		}
	}
	for name, s := range drawings() {
		if got, e := gauss.Genus(s.c); e != api.OK || got != 0 {
			t.Errorf("%s: the genus %d, %d", name, got, e)
		}
	}
}

// genusByCorners counts the faces as classes of the corners that lie along the
// same side of an edge. At each crossing the under strand goes north.
func genusByCorners(c gauss.Code) int {
	parts, corners := newClasses(len(c.Signs)), newClasses(4*len(c.Signs))
	for _, comp := range c.Comps {
		for i, v := range comp {
			next := comp[(i+1)%len(comp)]
			parts.merge(v.Crossing, next.Crossing)
			_, _, left, right := sides(v, c.Signs[v.Crossing])
			leftAhead, rightAhead, _, _ := sides(next, c.Signs[next.Crossing])
			corners.merge(left, leftAhead)
			corners.merge(right, rightAhead)
		}
	}
	sum := 0
	for part := range parts {
		v, faces := 0, map[int]bool{}
		for crossing := range c.Signs {
			if parts[crossing] == part {
				v++
				for k := range 4 {
					faces[corners[4*crossing+k]] = true
				}
			}
		}
		if v > 0 {
			sum += (2 + v - len(faces)) / 2
		}
	}
	return sum
}

// sides returns the corners at the left and right of the edge by which a visit
// comes in, and of the edge by which it goes out.
func sides(v gauss.Visit, sign int) (leftIn, rightIn, leftOut, rightOut int) {
	northeast, northwest, southwest, southeast := 4*v.Crossing, 4*v.Crossing+1, 4*v.Crossing+2, 4*v.Crossing+3
	if !v.Over {
		return southwest, southeast, northwest, northeast
	}
	if sign == 1 { // to the east
		return northwest, southwest, northeast, southeast
	}
	return southeast, northeast, southwest, northwest
}

// classes gives for each number one of its class.
type classes []int

func newClasses(n int) classes {
	c := make(classes, n)
	for i := range c {
		c[i] = i
	}
	return c
}

func (c classes) merge(i, k int) {
	from, to := c[i], c[k]
	for j := range c {
		if c[j] == from {
			c[j] = to
		}
	}
}
