package mirror_test

import (
	"slices"
	"testing"

	"unravel/api"
	"unravel/diagram"
	"unravel/example"
	"unravel/mirror"
)

// calls lists all functions, the number being that of a component or a crossing,
// by names.
func calls(number int) map[string]operation {
	all := images()
	all["ReverseOne"] = func(d api.Diagram) (api.Diagram, api.Errno) { return mirror.ReverseOne(d, number) }
	all["Switch"] = func(d api.Diagram) (api.Diagram, api.Errno) { return mirror.Switch(d, number) }
	all["Smooth"] = func(d api.Diagram) (api.Diagram, api.Errno) { return mirror.Smooth(d, number) }
	return all
}

// callAll calls every function with the diagram. Panics fail the test, and so
// does a call that runs on, by the time limit of go test.
func callAll(t *testing.T, d api.Diagram) {
	t.Helper()
	defer func() {
		if p := recover(); p != nil {
			t.Errorf("%v: panic: %v", d, p)
		}
	}()
	before := diagram.Clone(d)
	isValid := diagram.Valid(d)
	for _, number := range append([]int{len(d.Signs) - 1, len(d.Signs)}, example.Extremes()...) {
		for name, call := range calls(number) {
			got, e := call(d)
			if (e == api.ErrArg) == isValid || !diagram.Valid(got) || e != api.OK && !example.IsZero(got) {
				t.Errorf("%s of %v at %d: %v, %d", name, d, number, got, e)
			}
		}
	}
	if !diagram.Equal(d, before) {
		t.Errorf("%v: was %v before the calls", d, before)
	}
}

func TestNoArgumentPanics(t *testing.T) {
	for _, d := range samples() {
		callAll(t, d)
	}
	for _, d := range slices.Concat(example.Invalid(), example.Strange()) {
		callAll(t, d)
	}
}

// The number 3 is a loop of the second diagram.
func TestNothingSharesMemory(t *testing.T) {
	for _, sample := range []api.Diagram{example.FigureEight(), example.WithLoops(example.FigureEight(), 5)} {
		for _, number := range []int{0, 3} {
			for name, call := range calls(number) {
				d := diagram.Clone(sample)
				got, e := call(d)
				example.Overwrite(got.Signs)
				if slices.Contains(got.Mate, 77) {
					t.Errorf("%s: the signs share memory with the mates", name)
				}
				example.Overwrite(got.Mate)
				if !diagram.Equal(d, sample) {
					t.Errorf("%s: the result, %d, shares memory with the argument", name, e)
				}
			}
		}
	}
}
