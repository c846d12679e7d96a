package dowker_test

import (
	"slices"
	"testing"

	"unravel/api"
	"unravel/diagram"
	"unravel/dowker"
	"unravel/gauss"
)

func TestOf(t *testing.T) {
	for name, k := range knots() {
		if !diagram.Valid(k.d) {
			t.Errorf("%s: not a valid diagram", name)
		}
		if code, e := dowker.Of(k.d); e != api.OK || !slices.Equal(code, k.code) {
			t.Errorf("%s: the code %v, %d, not %v", name, code, e, k.code)
		}
	}
}

func TestOfFollowsTheStrand(t *testing.T) {
	k := knots()["trefoil"]
	strand := diagram.Strands(k.d)[0]
	code, _ := dowker.Of(k.d)
	for i, number := range code {
		if odd, even := strand[2*i], strand[number-1]; odd/4 != even/4 {
			t.Errorf("the passages %d and %d leave by the half-edges %d and %d", 2*i+1, number, odd, even)
		}
	}
}

func TestOfRefusesInvalidDiagrams(t *testing.T) {
	for _, d := range invalidDiagrams() {
		if code, e := dowker.Of(d); e != api.ErrArg || code != nil {
			t.Errorf("%v: the code %v, %d", d, code, e)
		}
	}
}

func TestOfRefusesOtherLinks(t *testing.T) {
	kinks := diagramOf([]int{1, 1}, 0, 1, 0, 3, 2, 5, 4, 7, 6)
	for _, c := range []struct {
		d    api.Diagram
		want api.Errno
	}{
		{api.Diagram{}, api.ErrEmpty},
		{diagramOf([]int{}, 0, []int{}...), api.ErrEmpty},
		{diagramOf(nil, 1), api.ErrEmpty},
		{diagramOf(nil, 2), api.ErrEmpty},
		{diagramOf(nil, api.MaxLoops), api.ErrEmpty},
		{diagramOf([]int{1}, 1, 1, 0, 3, 2), api.ErrMany},
		{diagramOf([]int{-1}, api.MaxLoops, 3, 2, 1, 0), api.ErrMany},
		{closure(2, 1, 1), api.ErrMany},
		{closure(2, 1, -1), api.ErrMany},
		{closure(2, slices.Repeat([]int{-1}, 64)...), api.ErrMany},
		{closure(3, 1, -2, 1, -2, 1, -2), api.ErrMany},
		{kinks, api.ErrMany},
		{diagramOf(kinks.Signs, 1, kinks.Mate...), api.ErrMany},
	} {
		if code, e := dowker.Of(c.d); e != c.want || code != nil || !diagram.Valid(c.d) {
			t.Errorf("%v: the code %v, %d, not the error %d", c.d, code, e, c.want)
		}
	}
}

// TestOfAllSmallDiagrams compares the codes with the Gauss codes of the same
// diagrams: all ways to mate the half-edges of up to three crossings.
func TestOfAllSmallDiagrams(t *testing.T) {
	for n, want := range []int{0, 2, 16, 336} {
		count := 0
		everyPairing(n, func(d api.Diagram) {
			code, e := dowker.Of(d)
			switch {
			case !diagram.Valid(d):
				if e != api.ErrArg || code != nil {
					t.Fatalf("%v: the code %v, %d", d, code, e)
				}
			case n == 0:
				if e != api.ErrEmpty || code != nil {
					t.Fatalf("%v: the code %v, %d", d, code, e)
				}
			case len(diagram.Strands(d)) > 1:
				if e != api.ErrMany || code != nil {
					t.Fatalf("%v: the code %v, %d", d, code, e)
				}
			default:
				count++
				compareOf(t, d)
			}
		})
		if count != want {
			t.Errorf("%d crossings: %d diagrams with one strand, not %d", n, count, want)
		}
	}
}

func compareOf(t *testing.T, d api.Diagram) []int {
	t.Helper()
	visits, _ := gauss.Of(d)
	want := codeOf(visits.Comps[0])
	code, e := dowker.Of(d)
	if e != api.OK || !slices.Equal(code, want) || !dowker.Valid(code) {
		t.Fatalf("%v: the code %v, %d, not %v", d, code, e, want)
	}
	return code
}

// everyPairing visits all ways to mate the outgoing with the incoming half-edges
// of n crossings, with all signs.
func everyPairing(n int, visit func(d api.Diagram)) {
	everySigns(n, func(signs []int) {
		d := api.Diagram{Signs: signs, Mate: make([]int, 4*n)}
		var outgoing, incoming []int
		for c, sign := range signs {
			outgoing = append(outgoing, 4*c+2-sign, 4*c+2)
			incoming = append(incoming, 4*c+2+sign, 4*c)
		}
		var pair func(i int)
		pair = func(i int) {
			if i == len(outgoing) {
				visit(d)
				return
			}
			for k := i; k < len(incoming); k++ {
				incoming[i], incoming[k] = incoming[k], incoming[i]
				d.Mate[outgoing[i]], d.Mate[incoming[i]] = incoming[i], outgoing[i]
				pair(i + 1)
				incoming[i], incoming[k] = incoming[k], incoming[i]
			}
		}
		pair(0)
	})
}

func TestValid(t *testing.T) {
	for name, k := range knots() {
		if !dowker.Valid(k.code) || !dowker.Valid(negated(k.code)) {
			t.Errorf("%s: %v is not valid", name, k.code)
		}
	}
	for _, code := range [][]int{
		{2}, {-2}, {2, 4}, {4, 2}, {-2, 4}, {4, -2}, {6, -4, 2}, {4, 6, 8, 10, 2}, {-4, 6, -8, 10, 2},
		evens(1, api.MaxCrossings), evens(-1, api.MaxCrossings), shifted(api.MaxCrossings, 3), shifted(api.MaxStates+1, 5),
	} {
		if !dowker.Valid(code) {
			t.Errorf("%v is not valid", code)
		}
	}
	for name, code := range invalidCodes() {
		if dowker.Valid(code) {
			t.Errorf("%s: %v is valid", name, code)
		}
	}
}

// TestValidForAllShortLists compares Valid with the sorted absolute values.
func TestValidForAllShortLists(t *testing.T) {
	count := 0
	var extend func(code []int)
	extend = func(code []int) {
		sizes := []int{}
		for _, number := range code {
			sizes = append(sizes, max(number, -number))
		}
		slices.Sort(sizes)
		want := len(code) > 0 && slices.Equal(sizes, evens(1, len(code)))
		if dowker.Valid(code) != want {
			t.Fatalf("%v: valid %v", code, !want)
		}
		if want {
			count++
		}
		for number := -9; number <= 9 && len(code) < 4; number++ {
			extend(append(slices.Clone(code), number))
		}
	}
	extend(nil)
	if want := 2 + 8 + 48 + 384; count != want {
		t.Errorf("%d codes are valid, not %d", count, want)
	}
}
