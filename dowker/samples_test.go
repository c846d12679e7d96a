package dowker_test

import (
	"math"
	"slices"

	"unravel/api"
	"unravel/diagram"
	"unravel/gauss"
)

func diagramOf(signs []int, loops int, mate ...int) api.Diagram {
	return api.Diagram{Signs: signs, Mate: mate, Loops: loops}
}

func isZero(d api.Diagram) bool { return diagram.Equal(d, api.Diagram{}) }

// A knot is a diagram with its code.
type knot struct {
	d    api.Diagram
	code []int
}

// knots lists diagrams with their codes, by names.
func knots() map[string]knot {
	return map[string]knot{
		"kink":          {diagramOf([]int{1}, 0, 1, 0, 3, 2), []int{2}},
		"negative kink": {diagramOf([]int{-1}, 0, 3, 2, 1, 0), []int{-2}},
		"two kinks":     chain([]int{1, 1}, 2, 4),
		"three kinks":   chain([]int{-1, 1, -1}, -2, 4, -6),
		"four kinks":    chain([]int{1, 1, -1, -1}, 2, -4, 6, -8),
		"nested kinks":  {diagramOf([]int{1, 1}, 0, 5, 4, 3, 2, 1, 0, 7, 6), []int{4, 2}},
		"trefoil": {diagramOf([]int{1, 1, 1}, 0, 9, 4, 7, 10, 1, 8, 11, 2, 5, 0, 3, 6),
			[]int{4, 6, 2}},
		"left trefoil": {diagramOf([]int{-1, -1, -1}, 0, 11, 10, 5, 4, 3, 2, 9, 8, 7, 6, 1, 0),
			[]int{-4, -6, -2}},
		"figure-eight knot": {diagramOf([]int{1, -1, -1, 1}, 0, 11, 4, 15, 14, 1, 10, 9, 12, 13, 6, 5, 0, 7, 8, 3, 2),
			[]int{4, 6, 8, 2}},
		"one crossing switched": {closure(2, 1, 1, -1), []int{4, -6, 2}},
		"five twists":           {closure(2, 1, 1, 1, 1, 1), []int{6, 8, 10, 2, 4}},
		"negative twists":       {closure(2, -1, -1, -1, -1, -1), []int{-6, -8, -10, -2, -4}},
		"8_19":                  {closure(3, 1, 1, 1, 2, 1, 1, 1, 2), []int{6, 8, -12, 2, 14, 16, -4, 10}},
		"MaxStates":             {closure(3, slices.Repeat([]int{1, -2}, 7)...), shifted(14, 19)},
		"MaxCrossings":          chain(slices.Repeat([]int{1}, 64), evens(1, 64)...),
		"MaxCrossings, mixed":   chain(slices.Repeat([]int{1, -1}, 32), evens(-1, 64)...),
		"63 twists":             {closure(2, slices.Repeat([]int{1}, 63)...), shifted(63, 63)},
		"63 negative twists":    {closure(2, slices.Repeat([]int{-1}, 63)...), negated(shifted(63, 63))},
	}
}

// evens is the code 2, 4, .., 2n in which each second number has the sign.
func evens(sign, n int) []int {
	code := make([]int, n)
	for i := range code {
		code[i] = 2*i + 2
		if i%2 == 1 {
			code[i] *= sign
		}
	}
	return code
}

// shifted is the code in which every odd passage k meets the passage k + by.
func shifted(n, by int) []int {
	code := make([]int, n)
	for i := range code {
		code[i] = (2*i+by)%(2*n) + 1
	}
	return code
}

func negated(code []int) []int {
	result := slices.Clone(code)
	for i := range result {
		result[i] = -result[i]
	}
	return result
}

// chain is a strand with kinks in a row. The first sign is that of the first
// number of the code, so that the strand begins with its first passage.
func chain(signs []int, code ...int) knot {
	n := len(signs)
	k := knot{diagramOf(signs, 0, make([]int, 4*n)...), code}
	join := func(out, in int) { k.d.Mate[out], k.d.Mate[in] = in, out }
	entries := func(c int) (int, int) {
		over, under := 4*c+2+signs[c], 4*c
		if code[c] > 0 {
			return over, under
		}
		return under, over
	}
	for c := range n {
		first, second := entries(c)
		next, _ := entries((c + 1) % n)
		join(first^2, second)
		join(second^2, next)
	}
	return k
}

// closure is the diagram of a closed braid: k is a crossing of the positions k
// and k + 1 in which the strand from the left goes over, and -k one in which it
// goes under. Each position needs a crossing.
func closure(width int, letters ...int) api.Diagram {
	d := api.Diagram{Mate: make([]int, 4*len(letters))}
	join := func(out, in int) { d.Mate[out], d.Mate[in] = in, out }
	first, last := map[int]int{}, map[int]int{}
	enter := func(position, in int) {
		if out, met := last[position]; met {
			join(out, in)
		} else {
			first[position] = in
		}
	}
	for c, letter := range letters {
		left, sign, corner := letter, 1, 4*c+3
		if letter < 0 {
			left, sign, corner = -letter, -1, 4*c
		}
		d.Signs = append(d.Signs, sign)
		enter(left, corner)
		enter(left+1, diagram.Turn(corner, 1))
		last[left+1], last[left] = diagram.Turn(corner, 2), diagram.Turn(corner, 3)
	}
	for position := 1; position <= width; position++ {
		join(last[position], first[position])
	}
	return d
}

// visitsOf lists the passages of a valid code from 1 on.
func visitsOf(code []int) []gauss.Visit {
	visits := make([]gauss.Visit, 2*len(code))
	for i, number := range code {
		even := max(number, -number)
		visits[2*i] = gauss.Visit{Crossing: i, Over: number > 0}
		visits[even-1] = gauss.Visit{Crossing: i, Over: number < 0}
	}
	return visits
}

// codeOf reads the code from the passages of a strand.
func codeOf(visits []gauss.Visit) []int {
	var code []int
	for i := 0; i < len(visits); i += 2 {
		other := gauss.Visit{Crossing: visits[i].Crossing, Over: !visits[i].Over}
		even := slices.Index(visits, other) + 1
		if other.Over {
			even = -even
		}
		code = append(code, even)
	}
	return code
}

func gaussCode(code, signs []int) gauss.Code {
	return gauss.Code{Comps: [][]gauss.Visit{visitsOf(code)}, Signs: signs}
}

// everySigns visits all lists of n signs, in the order in which 1 precedes -1
// at the first difference.
func everySigns(n int, visit func(signs []int)) {
	for bits := range 1 << n {
		var signs []int
		for i := range n {
			signs = append(signs, 1-bits>>(n-1-i)&1*2)
		}
		visit(signs)
	}
}

// drawnSigns lists the signs with which layer 2 can draw the code.
func drawnSigns(code []int) [][]int {
	var found [][]int
	everySigns(len(code), func(signs []int) {
		if g, e := gauss.Genus(gaussCode(code, signs)); g == 0 && e == api.OK {
			found = append(found, signs)
		}
	})
	return found
}

// everyShape visits the valid codes with n numbers, all of them positive.
func everyShape(n int, visit func(code []int)) {
	code := evens(1, n)
	var permute func(int)
	permute = func(i int) {
		if i == n {
			visit(slices.Clone(code))
			return
		}
		for k := i; k < n; k++ {
			code[i], code[k] = code[k], code[i]
			permute(i + 1)
			code[i], code[k] = code[k], code[i]
		}
	}
	permute(0)
}

// everyCode visits all valid codes with n numbers.
func everyCode(n int, visit func(code []int)) {
	everyShape(n, func(shape []int) {
		everySigns(n, func(signs []int) {
			code := slices.Clone(shape)
			for i := range code {
				code[i] *= signs[i]
			}
			visit(code)
		})
	})
}

// invalidDiagrams lists diagrams that are not valid.
func invalidDiagrams() []api.Diagram {
	return []api.Diagram{
		diagramOf([]int{1}, 0, 2, 3, 0, 1),
		diagramOf([]int{1}, 0, 3, 2, 1, 0),
		diagramOf([]int{1}, 0, 3, 2, 1, -1),
		diagramOf([]int{-1}, 0, 1, 0, 3, 2),
		diagramOf([]int{0}, 0, 1, 0, 3, 2),
		diagramOf([]int{1}, 0, 1, 0, 3),
		diagramOf([]int{1}, 0, 1, 0, 3, 4),
		diagramOf([]int{1}, 0),
		diagramOf(nil, 0, 1, 0),
		diagramOf([]int{1}, -1, 1, 0, 3, 2),
		diagramOf([]int{1}, api.MaxLoops+1, 1, 0, 3, 2),
		diagramOf([]int{1, 1}, 0, 6, 7, 5, 4, 3, 2, 0, 1),
		diagramOf(nil, -1),
		diagramOf(nil, math.MinInt),
		diagramOf(nil, api.MaxLoops+1),
		diagramOf(nil, math.MaxInt),
		chain(slices.Repeat([]int{1}, 65), evens(1, 65)...).d,
		closure(2, slices.Repeat([]int{1}, 65)...),
	}
}

// invalidCodes lists codes that are not valid, by names.
func invalidCodes() map[string][]int {
	return map[string][]int{
		"nil":                        nil,
		"empty":                      {},
		"zero":                       {0},
		"one":                        {1},
		"minus one":                  {-1},
		"three":                      {3},
		"four of one":                {4},
		"minus four of one":          {-4},
		"least number":               {math.MinInt},
		"next to the least number":   {math.MinInt + 1},
		"even, next to the least":    {math.MinInt + 2},
		"greatest number":            {math.MaxInt},
		"greatest even number":       {math.MaxInt - 1},
		"2 modulo 2^32":              {1<<32 + 2},
		"2 modulo 256":               {258},
		"zero beside 2":              {2, 0},
		"zero first":                 {0, 4},
		"odd number":                 {4, 6, 3},
		"negative odd number":        {4, 6, -3},
		"odd numbers only":           {1, 3, 5},
		"twice":                      {2, 2},
		"twice, both negative":       {-2, -2},
		"twice, signs differ":        {2, -2},
		"twice, signs differ, other": {-4, 2, 4},
		"twice the greatest":         {6, 2, 6},
		"too large":                  {4, 8, 2},
		"too large, negative":        {4, -8, 2},
		"too large, last":            {2, 6},
		"least number beside others": {2, math.MinInt, 4},
		"too long":                   evens(1, api.MaxCrossings+1),
		"too long, negative":         negated(evens(1, api.MaxCrossings+1)),
		"too long, shifted":          shifted(api.MaxCrossings+1, 3),
		"too long and zeros":         make([]int, api.MaxCrossings+1),
		"MaxCrossings and a double":  append(evens(1, api.MaxCrossings-1), 2),
		"MaxCrossings, last 130":     append(evens(1, api.MaxCrossings-1), 130),
		"MaxCrossings, last odd":     append(evens(1, api.MaxCrossings-1), 127),
		"MaxStates and a double":     append(evens(1, api.MaxStates), 2),
		"undrawable and a double":    {4, 6, 8, 10, 4},
	}
}
