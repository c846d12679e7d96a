package gauss_test

import (
	"math"
	"slices"
	"strings"
	"testing"

	"unravel/api"
	"unravel/diagram"
	"unravel/gauss"
)

var extremes = []int{math.MinInt, math.MinInt + 1, -1 << 32, -65, -64, -2, -1, 0, 1, 2, 63, 64, 65,
	1 << 32, 1<<61 + 1, math.MaxInt - 1, math.MaxInt}

// callAll calls every function of a code with it. Panics fail the test, and so
// does a call that runs on, by the time limit of go test.
func callAll(t *testing.T, c gauss.Code) {
	t.Helper()
	defer func() {
		if p := recover(); p != nil {
			t.Errorf("%v: panic: %v", c, p)
		}
	}()
	before := clone(c)
	isValid := gauss.Valid(c)
	g, e := gauss.Genus(c)
	if (e == api.OK) != isValid || !isValid && (e != api.ErrArg || g != 0) {
		t.Errorf("%v: the genus %d, %d", c, g, e)
	}
	s, e := gauss.Format(c)
	if (e == api.OK) != isValid || !isValid && (e != api.ErrArg || s != "") {
		t.Errorf("%v: the text %q, %d", c, s, e)
	}
	d, e := gauss.Diagram(c)
	if (e == api.ErrArg) == isValid || (e == api.OK) != (isValid && g == 0) {
		t.Errorf("%v: the diagram %v, %d", c, d, e)
	}
	if e != api.OK && !diagram.Equal(d, api.Diagram{}) || e == api.OK && !diagram.Valid(d) {
		t.Errorf("%v: the diagram %v beside the error %d", c, d, e)
	}
	if !equal(c, before) {
		t.Errorf("%v: was %v before the calls", c, before)
	}
}

func TestNoCodePanics(t *testing.T) {
	for _, s := range drawings() {
		callAll(t, s.c)
	}
	for _, c := range invalidCodes() {
		callAll(t, c)
	}
	for _, g := range genera() {
		callAll(t, g.c)
	}
	for _, n := range extremes {
		callAll(t, code(nil, n))
		callAll(t, code([]int{n}, 0, []int{1, -1}))
		for _, k := range extremes {
			callAll(t, gauss.Code{Comps: [][]gauss.Visit{{over(n), under(k)}}, Signs: []int{1}})
			callAll(t, gauss.Code{Comps: [][]gauss.Visit{{over(0)}, {under(n)}}, Signs: []int{1, 1}, Loops: k})
			callAll(t, gauss.Code{Comps: [][]gauss.Visit{{under(k), over(k)}}, Signs: []int{n}, Loops: 1})
		}
	}
}

func TestNoLargeCodePanics(t *testing.T) {
	visits := slices.Repeat([]gauss.Visit{over(0), under(0)}, 1<<20)
	many := make([][]gauss.Visit, 1<<20)
	plus := slices.Repeat([]int{1}, 1<<20)
	for _, c := range []gauss.Code{
		{Comps: [][]gauss.Visit{visits}, Signs: []int{1}},
		{Comps: [][]gauss.Visit{visits}, Signs: plus},
		{Comps: many, Signs: []int{1}},
		{Comps: many, Signs: plus, Loops: math.MaxInt},
		{Signs: plus},
		{Signs: make([]int, 1<<20)},
		kinks(1<<12, 0).c,
	} {
		if g, e := gauss.Genus(c); gauss.Valid(c) || g != 0 || e != api.ErrArg {
			t.Errorf("the genus %d, %d", g, e)
		}
		if d, e := gauss.Diagram(c); e != api.ErrArg || !diagram.Equal(d, api.Diagram{}) {
			t.Errorf("the diagram %v, %d", d, e)
		}
		if s, e := gauss.Format(c); e != api.ErrArg || s != "" {
			t.Errorf("the text %q, %d", s, e)
		}
	}
}

func TestNoDiagramPanics(t *testing.T) {
	callOf := func(d api.Diagram) {
		t.Helper()
		before := diagram.Clone(d)
		c, e := gauss.Of(d)
		if (e == api.OK) != diagram.Valid(d) || e != api.OK && (e != api.ErrArg || !isZero(c)) {
			t.Errorf("%v: the code %v, %d", d, c, e)
		}
		if !diagram.Equal(d, before) {
			t.Errorf("%v: was %v before the call", d, before)
		}
	}
	for _, s := range drawings() {
		callOf(s.d)
	}
	for _, d := range invalidDiagrams() {
		callOf(d)
	}
	for _, n := range extremes {
		callOf(diagramOf(nil, n))
		callOf(diagramOf([]int{n}, 0))
		for _, k := range extremes {
			callOf(diagramOf([]int{1}, 0, n, k, 3, 2))
			callOf(diagramOf([]int{n}, k, 1, 0, 3, 2))
		}
	}
	callOf(diagramOf(make([]int, 1<<18), 0, make([]int, 1<<20)...))
}

func TestNoTextPanics(t *testing.T) {
	pieces := []string{"O", "U", "1", "2", "0", "+", "-", "*", " ", "\n", "\xff", "é"}
	for _, a := range pieces {
		for _, b := range pieces {
			comparedWithReader(t, a+b)
			checkRepeated(t, a+b)
			for _, c := range pieces {
				for _, d := range pieces {
					comparedWithReader(t, a+b+c+d)
				}
			}
		}
	}
}

func checkRepeated(t *testing.T, s string) {
	t.Helper()
	long := strings.Repeat(s, api.MaxText/len(s))
	if c, e := gauss.Parse(long); e != api.ErrForm || !isZero(c) {
		t.Errorf("%q repeated: %v, %d", s, c, e)
	}
	if c, e := gauss.Parse(long + s); e != api.ErrFull || !isZero(c) {
		t.Errorf("%q repeated too often: %v, %d", s, c, e)
	}
}
