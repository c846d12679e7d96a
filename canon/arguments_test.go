package canon_test

import (
	"slices"
	"testing"

	"unravel/api"
	"unravel/canon"
	"unravel/diagram"
	"unravel/example"
)

// callAll calls every function with the diagram. Panics fail the test, and so
// does a call that runs on, by the time limit of go test.
func callAll(t *testing.T, d api.Diagram) {
	t.Helper()
	defer func() {
		if p := recover(); p != nil {
			t.Errorf("%v: panic: %v", d, p)
		}
	}()
	before := diagram.Clone(d)
	isValid := diagram.Valid(d)
	form, e := canon.Form(d)
	if (e == api.OK) != isValid || e != api.OK && (e != api.ErrArg || !example.IsZero(form)) {
		t.Errorf("%v: the form %v, %d", d, form, e)
	}
	if n := len(canon.Code(d)); (n > 0) != isValid || (canon.Key(d) != "") != isValid {
		t.Errorf("%v: %d numbers", d, n)
	}
	if n := canon.Symmetries(d); (n > 0) != isValid || n > 1<<40 {
		t.Errorf("%v: %d symmetries", d, n)
	}
	if canon.Same(d, d) != isValid || canon.Same(d, form) != isValid {
		t.Errorf("%v: wrong Same", d)
	}
	if !diagram.Equal(d, before) {
		t.Errorf("%v: was %v before the calls", d, before)
	}
}

func TestNoArgumentPanics(t *testing.T) {
	for _, d := range everyDiagram() {
		callAll(t, d)
	}
	for _, d := range slices.Concat(example.Invalid(), example.Strange()) {
		callAll(t, d)
	}
}

func TestNothingSharesMemory(t *testing.T) {
	d := example.FigureEight()
	form, _ := canon.Form(d)
	example.Overwrite(form.Signs)
	if slices.Contains(form.Mate, 77) {
		t.Error("the signs share memory with the mates")
	}
	example.Overwrite(form.Mate)
	example.Overwrite(canon.Code(d))
	if !diagram.Equal(d, example.FigureEight()) || !slices.Equal(canon.Code(d), samples()["figure-eight knot"].code) {
		t.Error("a result shares memory with an argument, or with another result")
	}
}
