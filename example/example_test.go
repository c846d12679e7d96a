package example_test

import (
	"testing"

	"unravel/api"
	"unravel/diagram"
	"unravel/example"
)

func TestExamplesAreValid(t *testing.T) {
	for name, c := range map[string]struct {
		d                     api.Diagram
		crossings, components int
	}{
		"loops":             {example.Loops(3), 0, 3},
		"kink":              {example.Kink(), 1, 1},
		"negative kink":     {example.NegativeKink(), 1, 1},
		"kink and loops":    {example.WithLoops(example.Kink(), 2), 1, 3},
		"circles":           {example.Circles(-1), 2, 2},
		"Hopf link":         {example.Hopf(), 2, 2},
		"trefoil":           {example.Trefoil(), 3, 1},
		"figure-eight knot": {example.FigureEight(), 4, 1},
		"Borromean rings":   {example.Borromean(), 6, 3},
		"odd twists":        {example.Twisted(5, -1), 5, 1},
		"even twists":       {example.Twisted(6, 1), 6, 2},
		"kinks":             {example.Kinks(7), 7, 7},
		"chain":             {example.Chain(7), 7, 1},
		"stack":             {example.Stack(3), 6, 4},
		"Gauss code":        {example.Gauss("O1+U1+ *"), 1, 2},
		"Dowker code":       {example.Dowker(4, 6, 2), 3, 1},
	} {
		if !diagram.Valid(c.d) || len(c.d.Signs) != c.crossings || diagram.Components(c.d) != c.components {
			t.Errorf("%s: %v", name, c.d)
		}
	}
	for name, d := range example.Small() {
		if !diagram.Valid(d) || len(d.Signs) > 10 {
			t.Errorf("%s: %v", name, d)
		}
	}
	for name, d := range example.Large() {
		if !diagram.Valid(d) {
			t.Errorf("%s: %v", name, d)
		}
	}
	for _, d := range example.Invalid() {
		if diagram.Valid(d) {
			t.Errorf("%v is valid", d)
		}
	}
}

func TestEverySmall(t *testing.T) {
	for n, want := range []int{1, 2, 24, 656} {
		count := 0
		example.EverySmall(n, func(d api.Diagram) {
			if len(d.Signs) != n || !diagram.Valid(d) {
				t.Error(d)
			}
			count++
		})
		if count != want {
			t.Errorf("%d diagrams with %d crossings", count, n)
		}
	}
}

func TestOverwrite(t *testing.T) {
	list := make([]int, 2, 4)
	if example.Overwrite(list) || !example.Overwrite(list[1:]) {
		t.Error(list)
	}
}
