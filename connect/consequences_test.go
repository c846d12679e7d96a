package connect_test

import (
	"slices"
	"testing"

	"unravel/api"
	"unravel/canon"
	"unravel/connect"
	"unravel/diagram"
	"unravel/example"
)

// united is the union of all diagrams.
func united(t *testing.T, diagrams []api.Diagram) api.Diagram {
	t.Helper()
	var all api.Diagram
	for _, d := range diagrams {
		next, e := connect.Union(all, d)
		if e != api.OK {
			t.Fatalf("%v and %v: %d", all, d, e)
		}
		all = next
	}
	return all
}

// keys are the same for the same diagrams up to isomorphism, in any order.
func keys(diagrams []api.Diagram) []string {
	var all []string
	for _, d := range diagrams {
		all = append(all, canon.Key(d))
	}
	slices.Sort(all)
	return all
}

// orders lists all orders of up to three crossings, and two of more crossings.
func orders(n int) [][]int {
	if n <= 3 {
		return [][][]int{{nil}, {{0}}, {{0, 1}, {1, 0}},
			{{0, 1, 2}, {0, 2, 1}, {1, 0, 2}, {1, 2, 0}, {2, 0, 1}, {2, 1, 0}}}[n]
	}
	var backwards, even, odd []int
	for c := range n {
		backwards = append(backwards, n-1-c)
		if c%2 == 0 {
			even = append(even, c)
		} else {
			odd = append(odd, c)
		}
	}
	return [][]int{backwards, slices.Concat(odd, even)}
}

func TestTheUnionOfThePiecesIsTheDiagram(t *testing.T) {
	everyDiagram(func(d api.Diagram) {
		pieces := connect.Split(d)
		if all := united(t, pieces); !diagram.Equal(all, partByPart(d)) || !canon.Same(all, d) {
			t.Fatalf("%v: %v", d, all)
		}
		for _, p := range pieces {
			if !diagram.Valid(p) || len(diagram.Graph(p))+p.Loops != 1 {
				t.Fatalf("%v: the piece %v", d, p)
			}
		}
	})
}

// partByPart has the crossings of each graph component after those of the one
// before.
func partByPart(d api.Diagram) api.Diagram {
	r, e := diagram.Renumber(d, slices.Concat(diagram.Graph(d)...))
	if e != api.OK {
		panic("partByPart")
	}
	return r
}

func TestThePiecesOfAUnion(t *testing.T) {
	pairs(func(a, b api.Diagram) {
		crossings := example.WithLoops(a, 0)
		all, _ := connect.Union(crossings, b)
		if got := connect.Split(all); !equalDiagrams(got, slices.Concat(connect.Split(crossings), connect.Split(b))) {
			t.Fatalf("%v and %v: %v", a, b, got)
		}
	})
}

// eachPairOfParts visits pairs of diagrams with crossings in one graph component
// and without loops: the small samples, all with two crossings, and some with
// three.
func eachPairOfParts(visit func(a, b api.Diagram)) {
	var parts []api.Diagram
	add := func(d api.Diagram) {
		if len(diagram.Graph(d)) == 1 && isSmall(d) {
			parts = append(parts, example.WithLoops(d, 0))
		}
	}
	for _, d := range samples() {
		add(d)
	}
	example.EverySmall(2, add)
	met := 0
	example.EverySmall(3, func(d api.Diagram) {
		if met%60 == 0 {
			add(d)
		}
		met++
	})
	for _, a := range parts {
		for _, b := range parts {
			visit(a, b)
		}
	}
}

func TestFactorUndoesSum(t *testing.T) {
	eachPairOfParts(func(a, b api.Diagram) {
		for _, x := range outgoing(a) {
			for _, y := range outgoing(b) {
				sum, e := connect.Sum(a, x, b, y)
				first, second, f := connect.Factor(sum, x, len(a.Mate)+y)
				if e != api.OK || f != api.OK || !diagram.Equal(first, a) || !diagram.Equal(second, b) {
					t.Fatalf("%v at %d and %v at %d: %v and %v, %d", a, x, b, y, first, second, f)
				}
				second, first, f = connect.Factor(sum, len(a.Mate)+y, x)
				if f != api.OK || !diagram.Equal(first, a) || !diagram.Equal(second, b) {
					t.Fatalf("%v at %d and %v at %d, exchanged: %v and %v, %d", a, x, b, y, first, second, f)
				}
			}
		}
	})
}

// TestSumUndoesFactor puts the parts together at the places where the half-edges
// of the cut are in them.
func TestSumUndoesFactor(t *testing.T) {
	everyDiagram(func(d api.Diagram) {
		if len(d.Signs) > 16 || len(diagram.Graph(d)) > 1 {
			return
		}
		for _, cut := range connect.Cuts(d) {
			a, b, _ := connect.Factor(d, cut[0], cut[1])
			found := false
			for _, x := range outgoing(a) {
				for _, y := range outgoing(b) {
					sum, e := connect.Sum(a, x, b, y)
					found = found || e == api.OK && canon.Same(sum, example.WithLoops(d, 0))
				}
			}
			if !found {
				t.Fatalf("%v along %v: no sum of %v and %v", d, cut, a, b)
			}
		}
	})
}

func TestFactorsHaveNoCuts(t *testing.T) {
	everyDiagram(func(d api.Diagram) {
		crossings, loops := 0, 0
		for _, f := range connect.Factors(d) {
			if !diagram.Valid(f) || len(connect.Cuts(f)) > 0 || len(diagram.Graph(f))+f.Loops != 1 {
				t.Fatalf("%v: the factor %v", d, f)
			}
			crossings, loops = crossings+len(f.Signs), loops+f.Loops
		}
		if crossings != len(d.Signs) || loops != d.Loops {
			t.Fatalf("%v: factors with %d crossings and %d loops", d, crossings, loops)
		}
	})
}

func TestNumbersOfCrossingsDoNotMatter(t *testing.T) {
	everyDiagram(func(d api.Diagram) {
		factors, cuts, nugatory := keys(connect.Factors(d)), len(connect.Cuts(d)), len(connect.Nugatory(d))
		for _, order := range orders(len(d.Signs)) {
			r, e := diagram.Renumber(d, order)
			if e != api.OK {
				t.Fatalf("%v is no order", order)
			}
			if got := keys(connect.Factors(r)); !slices.Equal(got, factors) {
				t.Fatalf("%v by %v: the factors %q, not %q", d, order, got, factors)
			}
			if len(connect.Cuts(r)) != cuts || len(connect.Nugatory(r)) != nugatory || connect.Alternating(r) != connect.Alternating(d) {
				t.Fatalf("%v by %v: the cuts or the crossings change", d, order)
			}
		}
	})
}

// TestTheFactorsOfASum: wherever two diagrams are put together, the sum has the
// factors of both.
func TestTheFactorsOfASum(t *testing.T) {
	eachPairOfParts(func(a, b api.Diagram) {
		want := keys(slices.Concat(connect.Factors(a), connect.Factors(b)))
		for k := range 4 {
			x, y := edgeOf(a, k), edgeOf(b, 3*k+1)
			sum, _ := connect.Sum(a, x, b, y)
			if got := keys(connect.Factors(sum)); !slices.Equal(got, want) {
				t.Fatalf("%v at %d and %v at %d: %q, not %q", a, x, b, y, got, want)
			}
		}
	})
}

func TestSumsHaveOneComponentLess(t *testing.T) {
	pairs(func(a, b api.Diagram) {
		for x := -1; x < len(a.Mate); x++ {
			for y := -1; y < len(b.Mate); y++ {
				if !isPlace(a, x) || !isPlace(b, y) {
					continue
				}
				sum, _ := connect.Sum(a, x, b, y)
				if diagram.Components(sum) != diagram.Components(a)+diagram.Components(b)-1 {
					t.Fatalf("%v at %d and %v at %d: %v", a, x, b, y, sum)
				}
			}
		}
	})
}
