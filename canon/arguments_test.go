package canon_test

import (
	"math"
	"slices"
	"testing"

	"unravel/api"
	"unravel/canon"
	"unravel/diagram"
)

var extremes = []int{math.MinInt, math.MinInt + 1, -1 << 32, -256, -65, -2, -1, 0, 1, 2, 3, 4, 64, 65, 255, 256,
	1 << 32, math.MaxInt - 1, math.MaxInt}

// callAll calls every function with the diagram. Panics fail the test, and so
// does a call that runs on, by the time limit of go test.
func callAll(t *testing.T, d api.Diagram) {
	t.Helper()
	defer func() {
		if p := recover(); p != nil {
			t.Errorf("%v: panic: %v", d, p)
		}
	}()
	before := diagram.Clone(d)
	isValid := diagram.Valid(d)
	form, e := canon.Form(d)
	if (e == api.OK) != isValid || e != api.OK && (e != api.ErrArg || !isZero(form)) {
		t.Errorf("%v: the form %v, %d", d, form, e)
	}
	if n := len(canon.Code(d)); (n > 0) != isValid || (canon.Key(d) != "") != isValid {
		t.Errorf("%v: %d numbers", d, n)
	}
	if n := canon.Symmetries(d); (n > 0) != isValid || n > 1<<40 {
		t.Errorf("%v: %d symmetries", d, n)
	}
	if canon.Same(d, d) != isValid || canon.Same(d, form) != isValid {
		t.Errorf("%v: wrong Same", d)
	}
	if !diagram.Equal(d, before) {
		t.Errorf("%v: was %v before the calls", d, before)
	}
}

func TestNoArgumentPanics(t *testing.T) {
	for _, d := range everyDiagram() {
		callAll(t, d)
	}
	for _, d := range invalidDiagrams() {
		callAll(t, d)
	}
	for _, n := range extremes {
		callAll(t, loops(n))
		callAll(t, diagramOf([]int{n}, 0))
		for _, k := range extremes {
			callAll(t, diagramOf([]int{1}, 0, n, k, 3, 2))
			callAll(t, diagramOf([]int{n}, k, 1, 0, 3, 2))
			callAll(t, diagramOf([]int{n}, k, 3, 2, 1, 0))
			callAll(t, diagramOf(nil, k, n))
		}
		for h := range 12 {
			d := trefoil()
			d.Mate[h] = n
			callAll(t, d)
		}
	}
	callAll(t, diagramOf(make([]int, 1<<18), 0, make([]int, 1<<20)...))
}

func TestNothingSharesMemory(t *testing.T) {
	d := figureEight()
	form, _ := canon.Form(d)
	overwrite(form.Signs)
	if slices.Contains(form.Mate, 77) {
		t.Error("the signs share memory with the mates")
	}
	overwrite(form.Mate)
	overwrite(canon.Code(d))
	if !diagram.Equal(d, figureEight()) || !slices.Equal(canon.Code(d), samples()["figure-eight knot"].code) {
		t.Error("a result shares memory with an argument, or with another result")
	}
}

// overwrite changes all the memory that can be reached through a slice.
func overwrite(list []int) {
	list = list[:cap(list)]
	for i := range list {
		list[i] = 77
	}
}
