package dowker_test

import (
	"slices"
	"testing"

	"unravel/api"
	"unravel/diagram"
	"unravel/dowker"
	"unravel/gauss"
)

func TestSigns(t *testing.T) {
	ones := func(n int) []int { return slices.Repeat([]int{1}, n) }
	for _, c := range []struct{ code, want []int }{
		{[]int{2}, []int{1}},
		{[]int{-2}, []int{1}},
		{[]int{2, 4}, []int{1, 1}},
		{[]int{-4, 2}, []int{1, 1}},
		{[]int{4, 6, 2}, []int{1, 1, 1}},
		{[]int{-4, -6, -2}, []int{1, 1, 1}},
		{[]int{4, -6, 2}, []int{1, -1, 1}},
		{[]int{4, 6, -2}, []int{1, 1, -1}},
		{[]int{-4, 6, 2}, []int{1, -1, -1}},
		{[]int{4, 6, 8, 2}, []int{1, -1, 1, -1}},
		{[]int{6, 8, 10, 2, 4}, ones(5)},
		{[]int{6, 8, -12, 2, 14, 16, -4, 10}, ones(8)},
		{[]int{4, 6, 2, 10, 12, 8}, ones(6)},
		{[]int{4, 6, 2, -10, -12, -8}, ones(6)},
		{[]int{4, 6, 2, 10, 12, -8}, []int{1, 1, 1, 1, 1, -1}},
		{[]int{4, 6, 2, -10, 12, 8}, []int{1, 1, 1, 1, -1, -1}},
		{[]int{4, 6, 2, 10, 12, 14, 8}, []int{1, 1, 1, 1, -1, 1, -1}},
		{[]int{4, 6, 8, 2, 12, 14, 10}, []int{1, -1, 1, -1, 1, 1, 1}},
		{evens(1, api.MaxStates), ones(api.MaxStates)},
		{evens(-1, api.MaxStates), ones(api.MaxStates)},
		{shifted(api.MaxStates-1, 13), ones(api.MaxStates - 1)},
		{append(shifted(api.MaxStates-1, 13), 28), ones(api.MaxStates)},
		{shifted(api.MaxStates, 19), slices.Repeat([]int{1, -1}, api.MaxStates/2)},
		{shifted(api.MaxStates, 9), slices.Repeat([]int{1, -1}, api.MaxStates/2)},
	} {
		if signs, e := dowker.Signs(c.code); e != api.OK || !slices.Equal(signs, c.want) {
			t.Errorf("%v: the signs %v, %d, not %v", c.code, signs, e, c.want)
		}
		checkDiagram(t, c.code)
	}
}

// checkDiagram compares the diagram with the one that layer 2 makes of the same
// passages and signs.
func checkDiagram(t *testing.T, code []int) {
	t.Helper()
	signs, e := dowker.Signs(code)
	d, f := dowker.Diagram(code)
	if e != f {
		t.Fatalf("%v: the errors %d and %d", code, e, f)
	}
	if e != api.OK {
		if signs != nil || !isZero(d) {
			t.Fatalf("%v: the signs %v and the diagram %v beside the error %d", code, signs, d, e)
		}
		return
	}
	want, e := gauss.Diagram(gaussCode(code, signs))
	if e != api.OK || !diagram.Equal(d, want) || !diagram.Valid(d) {
		t.Fatalf("%v: the diagram %v, not %v, %d", code, d, want, e)
	}
}

func TestDiagram(t *testing.T) {
	for _, c := range []struct {
		code []int
		want api.Diagram
	}{
		{[]int{2}, diagramOf([]int{1}, 0, 1, 0, 3, 2)},
		{[]int{-2}, diagramOf([]int{1}, 0, 1, 0, 3, 2)},
		{[]int{2, 4}, diagramOf([]int{1, 1}, 0, 1, 0, 7, 6, 5, 4, 3, 2)},
		{[]int{4, 2}, diagramOf([]int{1, 1}, 0, 5, 4, 3, 2, 1, 0, 7, 6)},
		{[]int{4, 6, 2}, diagramOf([]int{1, 1, 1}, 0, 5, 8, 11, 6, 9, 0, 3, 10, 1, 4, 7, 2)},
		{[]int{-4, -6, -2}, diagramOf([]int{1, 1, 1}, 0, 5, 8, 11, 6, 9, 0, 3, 10, 1, 4, 7, 2)},
		{[]int{4, -6, 2}, diagramOf([]int{1, -1, 1}, 0, 6, 8, 11, 7, 10, 9, 0, 3, 1, 5, 4, 2)},
		{[]int{4, 6, 8, 2}, diagramOf([]int{1, -1, 1, -1}, 0, 7, 12, 11, 10, 9, 14, 13, 0, 15, 4, 3, 2, 1, 6, 5, 8)},
	} {
		if d, e := dowker.Diagram(c.code); e != api.OK || !diagram.Equal(d, c.want) {
			t.Errorf("%v: the diagram %v, %d, not %v", c.code, d, e, c.want)
		}
	}
}

// TestKnotTable takes the codes of a table of knots; none of them has a crossing
// that cuts it, so exactly two lists of signs are possible.
func TestKnotTable(t *testing.T) {
	for _, c := range []struct {
		name   string
		code   []int
		writhe int
	}{
		{"3_1", []int{4, 6, 2}, 3},
		{"4_1", []int{4, 6, 8, 2}, 0},
		{"5_1", []int{6, 8, 10, 2, 4}, 5},
		{"5_2", []int{4, 8, 10, 2, 6}, 5},
		{"6_1", []int{4, 8, 12, 10, 2, 6}, 2},
		{"6_2", []int{4, 8, 10, 12, 2, 6}, 2},
		{"6_3", []int{4, 8, 10, 2, 12, 6}, 0},
		{"7_1", []int{8, 10, 12, 14, 2, 4, 6}, 7},
		{"8_19", []int{4, 8, -12, 2, -14, -16, -6, -10}, 8},
		{"8_20", []int{4, 8, -12, 2, -14, -6, -16, -10}, 2},
		{"8_21", []int{4, 8, -12, 2, 14, -6, 16, 10}, 4},
	} {
		signs, e := dowker.Signs(c.code)
		writhe := 0
		for _, sign := range signs {
			writhe += sign
		}
		if e != api.OK || max(writhe, -writhe) != c.writhe {
			t.Errorf("%s: the signs %v, %d", c.name, signs, e)
		}
		if lists := drawnSigns(c.code); len(lists) != 2 || !slices.Equal(lists[0], signs) {
			t.Errorf("%s: the signs %v, but possible are %v", c.name, signs, lists)
		}
		checkDiagram(t, c.code)
	}
}

func TestSignsErrors(t *testing.T) {
	check := func(code []int, want api.Errno) {
		t.Helper()
		if signs, e := dowker.Signs(code); e != want || signs != nil {
			t.Errorf("%v: the signs %v, %d, not the error %d", code, signs, e, want)
		}
		if d, e := dowker.Diagram(code); e != want || !isZero(d) {
			t.Errorf("%v: the diagram %v, %d, not the error %d", code, d, e, want)
		}
	}
	for _, code := range invalidCodes() {
		check(code, api.ErrForm)
	}
	for n := api.MaxStates + 1; n <= api.MaxCrossings; n++ {
		check(evens(1, n), api.ErrFull)
		check(evens(-1, n), api.ErrFull)
		check(shifted(n, 3), api.ErrFull)
		check(append(evens(1, n-1), 2*n-2), api.ErrForm)
	}
	for n := 5; n <= api.MaxStates; n++ {
		check(shifted(n, 3), api.ErrGenus)
		check(negated(shifted(n, 3)), api.ErrGenus)
	}
	everySigns(5, func(signs []int) {
		for i := range signs {
			signs[i] *= []int{4, 6, 8, 10, 2}[i]
		}
		check(signs, api.ErrGenus)
	})
	check(append([]int{4, 6, 8, 10, 2}, 14, 12), api.ErrGenus)
	check(append(shifted(13, 13), 30), api.ErrForm)
}

// TestSignsOfAllSmallCodes compares the signs with all those that layer 2 can
// draw, and the errors with a criterion for curves that knows no signs.
func TestSignsOfAllSmallCodes(t *testing.T) {
	for n, want := range []int{0, 1, 2, 6, 24, 113} {
		drawable := 0
		if n > 0 {
			everyCode(n, func(code []int) {
				if compareSigns(t, code) && slices.Min(code) > 0 {
					drawable++
				}
			})
		}
		if drawable != want {
			t.Errorf("%d crossings: %d shapes can be drawn, not %d", n, drawable, want)
		}
	}
	everyShape(6, func(code []int) { compareSigns(t, code) })
}

// compareSigns reports whether the code can be drawn.
func compareSigns(t *testing.T, code []int) bool {
	t.Helper()
	lists := drawnSigns(code)
	signs, e := dowker.Signs(code)
	if len(lists) == 0 {
		if e != api.ErrGenus || signs != nil || isCurve(code) {
			t.Fatalf("%v: the signs %v, %d, but there are none", code, signs, e)
		}
	} else if e != api.OK || !slices.Equal(signs, lists[0]) || !isCurve(code) {
		t.Fatalf("%v: the signs %v, %d, not %v", code, signs, e, lists[0])
	}
	checkDiagram(t, code)
	return e == api.OK
}

// isCurve decides by the criterion of Rosenstiehl whether a closed curve on a
// sphere passes its crossings in the order of the code: each crossing is
// interlaced with an even number of others; two that are not interlaced with
// each other have an even number of common ones; and the crossings can be
// divided in two such that two interlaced ones are on different sides exactly if
// the number of their common ones is even.
func isCurve(code []int) bool {
	n := len(code)
	linked := interlaced(code)
	side := make([]int, n)
	ok := true
	var place func(a, at int)
	place = func(a, at int) {
		side[a] = at
		for b := range n {
			if linked[a][b] {
				beyond := at
				if common(linked, a, b)%2 == 0 {
					beyond = -at
				}
				if side[b] == 0 {
					place(b, beyond)
				}
				ok = ok && side[b] == beyond
			}
		}
	}
	for a := range n {
		if side[a] == 0 {
			place(a, 1)
		}
		ok = ok && common(linked, a, a)%2 == 0
		for b := range a {
			ok = ok && (linked[a][b] || common(linked, a, b)%2 == 0)
		}
	}
	return ok
}

func interlaced(code []int) [][]bool {
	linked := make([][]bool, len(code))
	for i, number := range code {
		first, last := min(2*i+1, max(number, -number)), max(2*i+1, number, -number)
		for k, other := range code {
			odd, even := 2*k+1, max(other, -other)
			isInside := func(passage int) bool { return first < passage && passage < last }
			linked[i] = append(linked[i], i != k && isInside(odd) != isInside(even))
		}
	}
	return linked
}

func common(linked [][]bool, a, b int) int {
	count := 0
	for c := range linked {
		if linked[a][c] && linked[b][c] {
			count++
		}
	}
	return count
}
