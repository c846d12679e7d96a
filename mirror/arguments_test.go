package mirror_test

import (
	"math"
	"slices"
	"testing"

	"unravel/api"
	"unravel/diagram"
	"unravel/mirror"
)

var extremes = []int{math.MinInt, math.MinInt + 1, -1 << 32, -256, -65, -2, -1, 0, 1, 2, 3, 4, 64, 65, 255, 256,
	1 << 32, 1<<61 + 1, math.MaxInt - 1, math.MaxInt}

// calls lists all functions, the number being that of a component or a crossing,
// by names.
func calls(number int) map[string]operation {
	all := images()
	all["ReverseOne"] = func(d api.Diagram) (api.Diagram, api.Errno) { return mirror.ReverseOne(d, number) }
	all["Switch"] = func(d api.Diagram) (api.Diagram, api.Errno) { return mirror.Switch(d, number) }
	all["Smooth"] = func(d api.Diagram) (api.Diagram, api.Errno) { return mirror.Smooth(d, number) }
	return all
}

// callAll calls every function with the diagram. Panics fail the test, and so
// does a call that runs on, by the time limit of go test.
func callAll(t *testing.T, d api.Diagram) {
	t.Helper()
	defer func() {
		if p := recover(); p != nil {
			t.Errorf("%v: panic: %v", d, p)
		}
	}()
	before := diagram.Clone(d)
	isValid := diagram.Valid(d)
	for _, number := range append([]int{len(d.Signs) - 1, len(d.Signs)}, extremes...) {
		for name, call := range calls(number) {
			got, e := call(d)
			if (e == api.ErrArg) == isValid || !diagram.Valid(got) || e != api.OK && !isZero(got) {
				t.Errorf("%s of %v at %d: %v, %d", name, d, number, got, e)
			}
		}
	}
	if !diagram.Equal(d, before) {
		t.Errorf("%v: was %v before the calls", d, before)
	}
}

func TestNoArgumentPanics(t *testing.T) {
	for _, d := range samples() {
		callAll(t, d)
	}
	for _, d := range invalidDiagrams() {
		callAll(t, d)
	}
	for _, n := range extremes {
		callAll(t, loops(n))
		callAll(t, diagramOf([]int{n}, 0))
		for _, k := range extremes {
			callAll(t, diagramOf([]int{1}, 0, n, k, 3, 2))
			callAll(t, diagramOf([]int{n}, k, 1, 0, 3, 2))
			callAll(t, diagramOf([]int{n}, k, 3, 2, 1, 0))
			callAll(t, diagramOf(nil, k, n))
		}
		for h := range 12 {
			d := trefoil()
			d.Mate[h] = n
			callAll(t, d)
		}
	}
	callAll(t, diagramOf(make([]int, 1<<16), 0, make([]int, 1<<18)...))
}

// The number 3 is a loop of the second diagram.
func TestNothingSharesMemory(t *testing.T) {
	for _, sample := range []api.Diagram{figureEight(), withLoops(figureEight(), 5)} {
		for _, number := range []int{0, 3} {
			for name, call := range calls(number) {
				d := diagram.Clone(sample)
				got, e := call(d)
				overwrite(got.Signs)
				if slices.Contains(got.Mate, 77) {
					t.Errorf("%s: the signs share memory with the mates", name)
				}
				overwrite(got.Mate)
				if !diagram.Equal(d, sample) {
					t.Errorf("%s: the result, %d, shares memory with the argument", name, e)
				}
			}
		}
	}
}

// overwrite changes all the memory that can be reached through a slice.
func overwrite(list []int) {
	list = list[:cap(list)]
	for i := range list {
		list[i] = 77
	}
}
