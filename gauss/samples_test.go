package gauss_test

import (
	"math"
	"slices"
	"strconv"
	"strings"

	"unravel/api"
	"unravel/gauss"
)

// code makes a code from the visits of its sequences: k is the visit over the
// crossing k - 1, and -k the one under it.
func code(signs []int, loops int, comps ...[]int) gauss.Code {
	c := gauss.Code{Signs: signs, Loops: loops}
	for _, comp := range comps {
		visits := []gauss.Visit{}
		for _, k := range comp {
			visits = append(visits, gauss.Visit{Crossing: max(k, -k) - 1, Over: k > 0})
		}
		c.Comps = append(c.Comps, visits)
	}
	return c
}

func over(crossing int) gauss.Visit { return gauss.Visit{Crossing: crossing, Over: true} }

func under(crossing int) gauss.Visit { return gauss.Visit{Crossing: crossing} }

func equal(a, b gauss.Code) bool {
	return slices.EqualFunc(a.Comps, b.Comps, slices.Equal) && slices.Equal(a.Signs, b.Signs) && a.Loops == b.Loops
}

func isZero(c gauss.Code) bool { return equal(c, gauss.Code{}) }

func clone(c gauss.Code) gauss.Code {
	copied := gauss.Code{Signs: slices.Clone(c.Signs), Loops: c.Loops}
	for _, comp := range c.Comps {
		copied.Comps = append(copied.Comps, slices.Clone(comp))
	}
	return copied
}

// A drawn is a diagram with its code and the text of that.
type drawn struct {
	d api.Diagram
	c gauss.Code
	s string
}

func diagramOf(signs []int, loops int, mate ...int) api.Diagram {
	return api.Diagram{Signs: signs, Mate: mate, Loops: loops}
}

// drawings lists diagrams with their codes, by names.
func drawings() map[string]drawn {
	trefoil := []int{9, 4, 7, 10, 1, 8, 11, 2, 5, 0, 3, 6}
	return map[string]drawn{
		"empty":         {},
		"empty slices":  {api.Diagram{Signs: []int{}, Mate: []int{}}, code([]int{}, 0), ""},
		"one loop":      {diagramOf(nil, 1), code(nil, 1), "*"},
		"loops only":    {diagramOf(nil, 3), code(nil, 3), "* * *"},
		"kink":          {diagramOf([]int{1}, 0, 1, 0, 3, 2), code([]int{1}, 0, []int{1, -1}), "O1+U1+"},
		"negative kink": {diagramOf([]int{-1}, 0, 3, 2, 1, 0), code([]int{-1}, 0, []int{-1, 1}), "U1-O1-"},
		"trefoil": {diagramOf([]int{1, 1, 1}, 0, trefoil...),
			code([]int{1, 1, 1}, 0, []int{1, -2, 3, -1, 2, -3}), "O1+U2+O3+U1+O2+U3+"},
		"left trefoil": {diagramOf([]int{-1, -1, -1}, 0, 11, 10, 5, 4, 3, 2, 9, 8, 7, 6, 1, 0),
			code([]int{-1, -1, -1}, 0, []int{-1, 2, -3, 1, -2, 3}), "U1-O2-U3-O1-U2-O3-"},
		"figure-eight knot": {diagramOf([]int{1, -1, -1, 1}, 0, 11, 4, 15, 14, 1, 10, 9, 12, 13, 6, 5, 0, 7, 8, 3, 2),
			code([]int{1, -1, -1, 1}, 0, []int{1, -2, 3, -1, 4, -3, 2, -4}), "O1+U2-O3-U1+O4+U3-O2-U4+"},
		"Hopf link": {diagramOf([]int{1, 1}, 0, 5, 4, 7, 6, 1, 0, 3, 2),
			code([]int{1, 1}, 0, []int{1, -2}, []int{-1, 2}), "O1+U2+ U1+O2+"},
		"negative Hopf link": {diagramOf([]int{-1, -1}, 0, 7, 6, 5, 4, 3, 2, 1, 0),
			code([]int{-1, -1}, 0, []int{-1, 2}, []int{1, -2}), "U1-O2- O1-U2-"},
		"unlinked clasp": {diagramOf([]int{1, -1}, 2, 6, 5, 4, 7, 2, 1, 0, 3),
			code([]int{1, -1}, 2, []int{1, 2}, []int{-1, -2}), "O1+O2- U1+U2- * *"},
		"Borromean rings": {diagramOf([]int{-1, -1, 1, 1, -1, 1}, 0,
			19, 14, 23, 4, 3, 22, 11, 16, 21, 12, 17, 6, 9, 20, 1, 18, 7, 10, 15, 0, 13, 8, 5, 2),
			code([]int{-1, -1, 1, 1, -1, 1}, 0, []int{-1, 6, -3, 5}, []int{1, -2, 3, -4}, []int{2, -5, 4, -6}),
			"U1-O6+U3+O5- O1-U2-O3+U4+ O2-U5-O4+U6+"},
		"trefoil, kink, and loops": {diagramOf([]int{1, 1, 1, -1}, 2, slices.Concat(trefoil, []int{15, 14, 13, 12})...),
			code([]int{1, 1, 1, -1}, 2, []int{1, -2, 3, -1, 2, -3}, []int{-4, 4}), "O1+U2+O3+U1+O2+U3+ U4-O4- * *"},
		"MaxLoops":     {diagramOf(nil, api.MaxLoops), code(nil, api.MaxLoops), stars(api.MaxLoops)},
		"MaxCrossings": twisted(api.MaxCrossings),
		"all limits":   kinks(api.MaxCrossings, api.MaxLoops),
	}
}

func stars(n int) string { return strings.Join(slices.Repeat([]string{"*"}, n), " ") }

// twisted is the closure of the braid on two strands with n crossings of the
// sign +1, where n is even.
func twisted(n int) drawn {
	var mate []int
	var visits [2][]int
	var texts [2]string
	for c := range n {
		above, below := 4*((c+n-1)%n), 4*((c+1)%n)
		mate = append(mate, above+1, below, below+3, above+2)
		visits[c%2] = append(visits[c%2], c+1)
		visits[1-c%2] = append(visits[1-c%2], -c-1)
		texts[c%2] += "O" + strconv.Itoa(c+1) + "+"
		texts[1-c%2] += "U" + strconv.Itoa(c+1) + "+"
	}
	signs := slices.Repeat([]int{1}, n)
	return drawn{diagramOf(signs, 0, mate...), code(signs, 0, visits[0], visits[1]), texts[0] + " " + texts[1]}
}

// kinks is n crossings of the sign -1 in as many graph components, and loops.
func kinks(n, loops int) drawn {
	signs := slices.Repeat([]int{-1}, n)
	k := drawn{d: diagramOf(signs, loops), c: code(signs, loops)}
	var words []string
	for c := range n {
		k.d.Mate = append(k.d.Mate, 4*c+3, 4*c+2, 4*c+1, 4*c)
		k.c.Comps = append(k.c.Comps, []gauss.Visit{under(c), over(c)})
		number := strconv.Itoa(c + 1)
		words = append(words, "U"+number+"-O"+number+"-")
	}
	k.s = strings.Join(append(words, slices.Repeat([]string{"*"}, loops)...), " ")
	return k
}

// invalidDiagrams lists diagrams that are not valid.
func invalidDiagrams() []api.Diagram {
	return []api.Diagram{
		diagramOf([]int{1}, 0, 2, 3, 0, 1),
		diagramOf([]int{1}, 0, 3, 2, 1, 0),
		diagramOf([]int{0}, 0, 1, 0, 3, 2),
		diagramOf([]int{1}, 0, 1, 0, 3),
		diagramOf([]int{1}, 0, 1, 0, 3, 4),
		diagramOf([]int{1}, 0, -1, 0, 3, 2),
		diagramOf([]int{1}, 0),
		diagramOf(nil, 0, 1, 0),
		diagramOf([]int{1}, -1, 1, 0, 3, 2),
		diagramOf([]int{1}, api.MaxLoops+1, 1, 0, 3, 2),
		diagramOf(nil, -1),
		diagramOf(nil, math.MinInt),
		diagramOf(nil, api.MaxLoops+1),
		diagramOf(nil, math.MaxInt),
		kinks(api.MaxCrossings+1, 0).d,
		twisted(api.MaxCrossings + 2).d,
	}
}

// invalidCodes lists codes that are not valid, by names.
func invalidCodes() map[string]gauss.Code {
	kink := func(sign int) gauss.Code { return code([]int{sign}, 0, []int{1, -1}) }
	visits := func(signs []int, comps ...[]gauss.Visit) gauss.Code { return gauss.Code{Comps: comps, Signs: signs} }
	one, two := []int{1}, []int{1, -1}
	return map[string]gauss.Code{
		"nil sequence":                 visits(nil, nil),
		"empty sequence":               visits(nil, []gauss.Visit{}),
		"empty sequence and loops":     code(nil, 2, nil),
		"empty sequence first":         code(one, 0, nil, []int{1, -1}),
		"empty sequence last":          code(one, 0, []int{1, -1}, nil),
		"empty sequence between":       code(two, 0, []int{1, -1}, nil, []int{2, -2}),
		"no visits":                    code(one, 0),
		"missing crossing":             code(two, 0, []int{1, -1}),
		"missing first crossing":       code(two, 0, []int{2, -2}),
		"missing over":                 code(one, 0, []int{-1}),
		"missing under":                code(one, 0, []int{1}),
		"missing last under":           code(two, 0, []int{1, -1, 2}),
		"twice over":                   code(one, 0, []int{1, 1}),
		"twice under":                  code(one, 0, []int{-1, -1}),
		"twice over, and under":        code(one, 0, []int{1, -1, 1}),
		"over, and twice under":        code(one, 0, []int{1, -1, -1}),
		"twice over in two sequences":  code(one, 0, []int{1}, []int{1}),
		"four times":                   code(one, 0, []int{1, -1}, []int{1, -1}),
		"twice over, other not at all": code(two, 0, []int{1, 1, -1, -2}),
		"crossings exchanged":          code(two, 0, []int{1, 1, 2, 2}),
		"crossing without a sign":      code(nil, 0, []int{1, -1}),
		"crossing 1 of 1":              code(one, 0, []int{2, -2}),
		"another crossing 1 of 1":      code(one, 0, []int{1, -1, 2, -2}),
		"crossing 1 of 1, over":        code(one, 0, []int{1, -1, 2}),
		"crossing -1":                  visits(one, []gauss.Visit{over(-1), under(-1)}),
		"another crossing -1":          visits(one, []gauss.Visit{over(0), under(0), over(-1), under(-1)}),
		"crossing -1 under":            visits(one, []gauss.Visit{over(0), under(-1)}),
		"least crossing":               visits(one, []gauss.Visit{over(math.MinInt), under(math.MinInt)}),
		"greatest crossing":            visits(one, []gauss.Visit{over(math.MaxInt), under(math.MaxInt)}),
		"sign 0":                       kink(0),
		"sign 2":                       kink(2),
		"sign -2":                      kink(-2),
		"least sign":                   kink(math.MinInt),
		"greatest sign":                kink(math.MaxInt),
		"last sign 0":                  code([]int{1, 0}, 0, []int{1, -1, 2, -2}),
		"-1 loops":                     code(nil, -1),
		"least loops":                  code(nil, math.MinInt),
		"too many loops":               code(nil, api.MaxLoops+1),
		"greatest loops":               code(nil, math.MaxInt),
		"kink and -1 loops":            code(one, -1, []int{1, -1}),
		"kink and too many loops":      code(one, api.MaxLoops+1, []int{1, -1}),
		"too many kinks":               kinks(api.MaxCrossings+1, 0).c,
		"too many crossings":           twisted(api.MaxCrossings + 2).c,
		"far too many crossings":       twisted(100 * api.MaxCrossings).c,
		"genus 1 and sign 0":           code([]int{1, 0}, 0, []int{1, 2, -1, -2}),
		"genus 1 and -1 loops":         code(two, -1, []int{1, 2, -1, -2}),
		"genus 1 and a crossing more":  code(two, 0, []int{1, 2, -1, -2, 3}),
		"genus 1 and a crossing less":  code([]int{1, 1, 1}, 0, []int{1, 2, -1, -2}),
	}
}
