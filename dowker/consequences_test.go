package dowker_test

import (
	"slices"
	"testing"

	"unravel/api"
	"unravel/diagram"
	"unravel/dowker"
)

// checkWayBack follows a diagram to its code and back again.
func checkWayBack(t *testing.T, d api.Diagram) {
	t.Helper()
	code := compareOf(t, d)
	numbered := inOrder(t, d)
	back, e := dowker.Diagram(code)
	if e != api.OK || !diagram.Valid(back) {
		t.Fatalf("%v: the diagram %v, %d of the code %v", d, back, e, code)
	}
	lists := drawnSigns(code)
	if !slices.ContainsFunc(lists, func(signs []int) bool { return slices.Equal(signs, numbered.Signs) }) {
		t.Fatalf("%v: the signs %v are not among those of the code %v", d, numbered.Signs, code)
	}
	if len(lists) == 2 && !diagram.Equal(back, numbered) && !diagram.Equal(back, reflected(numbered)) {
		t.Fatalf("%v: the diagram %v of the code %v, not %v or its reflection", d, back, code, numbered)
	}
	if again, e := dowker.Of(back); e != api.OK || !isRestarted(again, code) {
		t.Fatalf("%v: the code %v, %d of its diagram", code, again, e)
	}
}

// inOrder numbers the crossings in the order of their odd passages.
func inOrder(t *testing.T, d api.Diagram) api.Diagram {
	t.Helper()
	var order []int
	for i, h := range diagram.Strands(d)[0] {
		if i%2 == 0 {
			order = append(order, h/4)
		}
	}
	numbered, e := diagram.Renumber(d, order)
	if e != api.OK {
		t.Fatalf("%v: the order %v", d, order)
	}
	return numbered
}

// reflected is the diagram seen from behind.
func reflected(d api.Diagram) api.Diagram {
	behind := func(h int) int { return h - h%4 + (4-h%4)%4 }
	r := api.Diagram{Signs: negated(d.Signs), Mate: make([]int, len(d.Mate)), Loops: d.Loops}
	for h, mate := range d.Mate {
		r.Mate[behind(h)] = behind(mate)
	}
	return r
}

// restarted is the code read from the passage 1 + by on.
func restarted(code []int, by int) []int {
	visits := visitsOf(code)
	return codeOf(slices.Concat(visits[by:], visits[:by]))
}

func isRestarted(a, b []int) bool {
	for by := range 2 * len(b) {
		if slices.Equal(a, restarted(b, by)) {
			return true
		}
	}
	return false
}

func TestWayBackForSmallDiagrams(t *testing.T) {
	for n := 1; n <= 3; n++ {
		everyPairing(n, func(d api.Diagram) {
			if diagram.Valid(d) && diagram.Components(d) == 1 {
				checkWayBack(t, d)
			}
		})
	}
}

func TestWayBackForSamples(t *testing.T) {
	for _, k := range knots() {
		if len(k.code) <= 10 {
			checkWayBack(t, k.d)
			checkWayBack(t, reflected(k.d))
		}
	}
}

// TestWayBackForClosedBraids takes the closures of all words of six letters that
// are knots.
func TestWayBackForClosedBraids(t *testing.T) {
	count := 0
	for bits := range 1 << 12 {
		var letters []int
		for i := range 6 {
			letters = append(letters, []int{1, -1, 2, -2}[bits>>(2*i)&3])
		}
		if slices.Index(letters, 1)+slices.Index(letters, -1) == -2 || slices.Index(letters, 2)+slices.Index(letters, -2) == -2 {
			continue
		}
		if d := closure(3, letters...); diagram.Components(d) == 1 {
			count++
			checkWayBack(t, d)
		}
	}
	if count != 2688 {
		t.Errorf("%d knots", count)
	}
}

// TestLargestWayBack takes diagrams of MaxStates crossings that no crossing
// cuts, so that they come back or are reflected.
func TestLargestWayBack(t *testing.T) {
	for _, d := range []api.Diagram{
		closure(3, slices.Repeat([]int{1, -2}, 7)...),
		closure(3, slices.Repeat([]int{-1, 2}, 7)...),
		closure(3, slices.Repeat([]int{1, 2}, 7)...),
		closure(2, slices.Repeat([]int{1}, 13)...),
		closure(2, slices.Repeat([]int{-1}, 13)...),
		closure(3, 1, 1, 1, -2, 1, 1, 1, -2, 1, 1, -2, 1, -2, -2),
	} {
		code := compareOf(t, d)
		numbered := inOrder(t, d)
		back, e := dowker.Diagram(code)
		if e != api.OK || !diagram.Equal(back, numbered) && !diagram.Equal(back, reflected(numbered)) {
			t.Errorf("%v: the diagram %v, %d of the code %v", d, back, e, code)
		}
	}
}

// TestStrandsMayBeSwitched: whether a code can be drawn does not depend on which
// strands pass over, and the negative code has the same signs.
func TestStrandsMayBeSwitched(t *testing.T) {
	for n := 1; n <= 5; n++ {
		everyShape(n, func(shape []int) {
			_, want := dowker.Signs(shape)
			everySigns(n, func(signs []int) {
				code := slices.Clone(shape)
				for i := range code {
					code[i] *= signs[i]
				}
				first, e := dowker.Signs(code)
				second, f := dowker.Signs(negated(code))
				if e != want || f != want || !slices.Equal(first, second) {
					t.Fatalf("%v: the signs %v, %d and %v, %d", code, first, e, second, f)
				}
			})
		})
	}
}

// TestCodesMayStartElsewhere: a code that is read from another starting point
// can be drawn exactly if the original one can, and vice versa.
func TestCodesMayStartElsewhere(t *testing.T) {
	check := func(code []int) {
		t.Helper()
		_, want := dowker.Signs(code)
		for by := range 2 * len(code) {
			other := restarted(code, by)
			if _, e := dowker.Signs(other); e != want || !dowker.Valid(other) {
				t.Fatalf("%v: the error %d, but %d for %v", other, e, want, code)
			}
		}
	}
	for n := 1; n <= 4; n++ {
		everyCode(n, check)
	}
	everyShape(5, check)
	for _, k := range knots() {
		if len(k.code) <= 10 {
			check(k.code)
		}
	}
	check([]int{4, -6, 8, 10, -2, 12})
	check(shifted(9, 3))
	check(shifted(10, 3))
}
