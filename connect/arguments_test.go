package connect_test

import (
	"slices"
	"testing"

	"unravel/api"
	"unravel/connect"
	"unravel/diagram"
	"unravel/example"
)

// callAll calls every function with the diagram. Panics fail the test, and so
// does a call that runs on, by the time limit of go test.
func callAll(t *testing.T, d api.Diagram) {
	t.Helper()
	defer func() {
		if p := recover(); p != nil {
			t.Errorf("%v: panic: %v", d, p)
		}
	}()
	before := diagram.Clone(d)
	list := slices.Concat(connect.Split(d), connect.Factors(d))
	if !diagram.Valid(d) && len(list) > 0 {
		t.Fatalf("%v: the parts %v", d, list)
	}
	connect.Nugatory(d)
	connect.Reduced(d)
	connect.Alternating(d)
	connect.Cuts(d)
	errors := map[api.Errno]bool{}
	keep := func(e api.Errno, results ...api.Diagram) {
		for _, r := range results {
			if e != api.OK && !example.IsZero(r) {
				t.Errorf("%v: %v with the error %d", d, r, e)
			}
		}
		list, errors[e] = append(list, results...), true
	}
	for _, n := range example.Extremes() {
		for _, other := range []api.Diagram{d, example.WithLoops(example.NegativeKink(), 1)} {
			a, e := connect.Union(d, other)
			keep(e, a)
			a, e = connect.Sum(d, n, other, 3)
			keep(e, a)
			a, e = connect.Sum(other, 2, d, n)
			keep(e, a)
		}
		for _, k := range example.Extremes() {
			a, b, e := connect.Factor(d, n, k)
			keep(e, a, b)
		}
	}
	for _, r := range list {
		if !diagram.Valid(r) {
			t.Errorf("%v: the result %v", d, r)
		}
	}
	if isInvalid := len(errors) == 1 && errors[api.ErrArg]; isInvalid == diagram.Valid(d) {
		t.Errorf("%v: the errors %v", d, errors)
	}
	if !diagram.Equal(d, before) {
		t.Errorf("%v: was %v before the calls", d, before)
	}
}

func TestNoArgumentPanics(t *testing.T) {
	for _, d := range samples() {
		if isSmall(d) {
			callAll(t, d)
		}
	}
	for _, d := range slices.Concat(example.Invalid(), example.Strange()) {
		callAll(t, d)
	}
}

func TestNothingSharesMemory(t *testing.T) {
	for _, sample := range []api.Diagram{
		example.WithLoops(example.FigureEight(), 2), example.WithLoops(example.Chain(5), 1),
		example.WithLoops(example.Kinks(3), 2), example.Loops(2),
	} {
		for name, call := range map[string]func(d api.Diagram) []api.Diagram{
			"Split":   connect.Split,
			"Factors": connect.Factors,
			"Union":   func(d api.Diagram) []api.Diagram { return first(connect.Union(d, d)) },
			"Union with nothing": func(d api.Diagram) []api.Diagram {
				return slices.Concat(first(connect.Union(d, api.Diagram{})), first(connect.Union(api.Diagram{}, d)))
			},
			"Sum":           func(d api.Diagram) []api.Diagram { return first(connect.Sum(d, edgeOf(d, 0), d, edgeOf(d, 3))) },
			"Sum at a loop": func(d api.Diagram) []api.Diagram { return first(connect.Sum(d, -1, d, edgeOf(d, 1))) },
			"Sum with a loop": func(d api.Diagram) []api.Diagram {
				return slices.Concat(first(connect.Sum(d, edgeOf(d, 1), example.Loops(1), -1)), first(connect.Sum(example.Loops(1), -1, d, edgeOf(d, 1))))
			},
			"Factor": func(d api.Diagram) []api.Diagram {
				a, b, _ := connect.Factor(d, 2, 6)
				return []api.Diagram{a, b}
			},
		} {
			d := diagram.Clone(sample)
			for _, r := range call(d) {
				if example.Overwrite(r.Signs) || example.Overwrite(r.Mate) {
					t.Errorf("%s of %v: two slices share memory", name, sample)
				}
			}
			if !diagram.Equal(d, sample) {
				t.Errorf("%s of %v: a result shares memory with the argument", name, sample)
			}
		}
	}
}

func first(d api.Diagram, _ api.Errno) []api.Diagram { return []api.Diagram{d} }
