package moves_test

import (
	"math"
	"slices"
	"testing"

	"unravel/api"
	"unravel/diagram"
	"unravel/example"
	"unravel/moves"
)

// strangeMoves lists moves with numbers at and beyond the limits.
func strangeMoves() []api.Move {
	var list []api.Move
	numbers := []int{math.MinInt, -3, -2, -1, 0, 1, 2, 6, 63, 256, math.MaxInt}
	for kind := range 7 {
		for _, x := range numbers {
			for _, y := range numbers {
				for _, sign := range []int{0, 1, -1} {
					list = append(list, api.Move{Kind: kind, X: x, Y: y, Sign: sign, Over: (x+y)%2 == 0})
				}
			}
			list = append(list, api.Move{Kind: kind, X: x, Sign: math.MinInt}, api.Move{Kind: x, X: kind, Sign: math.MaxInt})
		}
	}
	return list
}

// callAll calls every function with the diagram. Panics fail the test, and so
// does a call that runs on, by the time limit of go test.
func callAll(t *testing.T, d api.Diagram) {
	t.Helper()
	defer func() {
		if p := recover(); p != nil {
			t.Errorf("%v: panic: %v", d, p)
		}
	}()
	before := diagram.Clone(d)
	isValid := diagram.Valid(d)
	for _, m := range strangeMoves() {
		got, back, e := moves.Apply(d, m)
		isRefused := e != api.OK
		if (e == api.ErrArg) == isValid || !diagram.Valid(got) || isRefused && (!example.IsZero(got) || back != api.Move{}) {
			t.Fatalf("%v: %v: %v, %v, %d", d, m, got, back, e)
		}
	}
	if all := moves.All(d); len(moves.Removing(d))+len(moves.Slides(d)) > len(all) || !isValid && len(all) > 0 {
		t.Errorf("%v: all %v", d, all)
	}
	if !diagram.Equal(d, before) {
		t.Errorf("%v: was %v before the calls", d, before)
	}
}

func TestNoArgumentPanics(t *testing.T) {
	for _, list := range []map[string]api.Diagram{example.Small(), example.Large()} {
		for _, d := range list {
			callAll(t, d)
		}
	}
	for _, d := range slices.Concat(example.Invalid(), example.Strange()) {
		callAll(t, d)
	}
}

func TestNothingSharesMemory(t *testing.T) {
	kinds := map[int]bool{}
	for _, sample := range example.Small() {
		for _, m := range moves.All(sample) {
			d := diagram.Clone(sample)
			changed, _, _ := moves.Apply(d, m)
			if example.Overwrite(changed.Signs) || example.Overwrite(changed.Mate) {
				t.Fatalf("%v: %v: two slices share memory", sample, m)
			}
			if !diagram.Equal(d, sample) {
				t.Fatalf("%v: %v: a result shares memory with the argument", sample, m)
			}
			kinds[m.Kind] = true
		}
	}
	if len(kinds) != 5 {
		t.Error(kinds)
	}
}

// Two calls return lists of their own.
func TestListsAreNew(t *testing.T) {
	for _, list := range []func(d api.Diagram) []api.Move{moves.All, moves.Removing, moves.Slides} {
		d := example.WithLoops(example.Triangle(), 1)
		first := list(d)
		want := slices.Clone(first)
		second := list(d)
		for i := range second {
			second[i] = api.Move{}
		}
		if len(want) == 0 || !slices.Equal(first, want) || !slices.Equal(list(d), want) {
			t.Errorf("%v, not %v", first, want)
		}
	}
}
