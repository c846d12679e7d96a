package connect_test

import (
	"slices"
	"testing"

	"unravel/api"
	"unravel/connect"
	"unravel/diagram"
	"unravel/example"
	"unravel/gauss"
)

// Diagrams are put together and taken apart by their Gauss codes (2), which know
// nothing of mates; cuts and nugatory crossings are found by leaving something
// out and looking what falls apart, without faces.

func codeOf(d api.Diagram) gauss.Code {
	c, e := gauss.Of(d)
	if e != api.OK {
		panic("codeOf")
	}
	return c
}

// codesBeside numbers the crossings of b after those of a.
func codesBeside(a, b gauss.Code) gauss.Code {
	both := gauss.Code{Signs: slices.Concat(a.Signs, b.Signs), Comps: slices.Clone(a.Comps), Loops: a.Loops + b.Loops}
	for _, comp := range b.Comps {
		moved := slices.Clone(comp)
		for i := range moved {
			moved[i].Crossing += len(a.Signs)
		}
		both.Comps = append(both.Comps, moved)
	}
	return both
}

func modelUnion(a, b api.Diagram) api.Diagram {
	return example.Drawn(codesBeside(codeOf(a), codeOf(b)))
}

// visitOf gives the number of the component and the index of the visit after
// which the strand leads along the half-edge.
func visitOf(d api.Diagram, out int) (comp, index int) {
	for k, strand := range diagram.Strands(d) {
		if i := slices.Index(strand, out); i >= 0 {
			return k, i
		}
	}
	panic("visitOf")
}

// after turns a cyclic sequence such that it ends with the visit.
func after(comp []gauss.Visit, index int) []gauss.Visit {
	return slices.Concat(comp[index+1:], comp[:index+1])
}

func modelSum(a api.Diagram, x int, b api.Diagram, y int) api.Diagram {
	code := codesBeside(codeOf(a), codeOf(b))
	if x == -1 || y == -1 {
		code.Loops--
		return example.Drawn(code)
	}
	first, i := visitOf(a, x)
	second, k := visitOf(b, y)
	second += len(diagram.Strands(a))
	code.Comps[first] = slices.Concat(after(code.Comps[first], i), after(code.Comps[second], k))
	code.Comps = slices.Delete(code.Comps, second, second+1)
	return example.Drawn(code)
}

// codeParts lists the crossings that belong together by common components.
func codeParts(c gauss.Code) [][]int {
	class := make([]int, len(c.Signs))
	for i := range class {
		class[i] = i
	}
	for _, comp := range c.Comps {
		for _, v := range comp {
			replace(class, class[v.Crossing], class[comp[0].Crossing])
		}
	}
	var parts [][]int
	for crossing, k := range class {
		if slices.Index(class, k) == crossing {
			parts = append(parts, nil)
			for other := range class {
				if class[other] == k {
					parts[len(parts)-1] = append(parts[len(parts)-1], other)
				}
			}
		}
	}
	return parts
}

func replace(list []int, before, now int) {
	for i := range list {
		if list[i] == before {
			list[i] = now
		}
	}
}

func drawnPart(c gauss.Code, crossings []int) api.Diagram {
	var p gauss.Code
	for _, crossing := range crossings {
		p.Signs = append(p.Signs, c.Signs[crossing])
	}
	for _, comp := range c.Comps {
		if !slices.Contains(crossings, comp[0].Crossing) {
			continue
		}
		var renumbered []gauss.Visit
		for _, v := range comp {
			renumbered = append(renumbered, gauss.Visit{Crossing: slices.Index(crossings, v.Crossing), Over: v.Over})
		}
		p.Comps = append(p.Comps, renumbered)
	}
	return example.Drawn(p)
}

func modelSplit(d api.Diagram) []api.Diagram {
	var pieces []api.Diagram
	c := codeOf(d)
	for _, crossings := range codeParts(c) {
		pieces = append(pieces, drawnPart(c, crossings))
	}
	return append(pieces, slices.Repeat([]api.Diagram{example.Loops(1)}, d.Loops)...)
}

// modelFactor makes two components of the one that leads along both half-edges.
func modelFactor(d api.Diagram, x, y int) (api.Diagram, api.Diagram) {
	c := codeOf(d)
	k, i := visitOf(d, x)
	_, j := visitOf(d, y)
	n := len(c.Comps[k])
	comp, between := after(c.Comps[k], i), (j-i+n)%n
	c.Comps[k] = comp[between:]
	c.Comps = append(c.Comps, comp[:between])
	at := func(h int) api.Diagram {
		parts := codeParts(c)
		return drawnPart(c, parts[slices.IndexFunc(parts, func(p []int) bool { return slices.Contains(p, h/4) })])
	}
	return at(x), at(y)
}

func modelFactors(d api.Diagram) []api.Diagram {
	var factors []api.Diagram
	for _, piece := range modelSplit(d) {
		cuts := modelCuts(piece)
		if len(cuts) == 0 {
			factors = append(factors, piece)
			continue
		}
		a, b := modelFactor(piece, cuts[0][0], cuts[0][1])
		factors = append(factors, slices.Concat(modelFactors(a), modelFactors(b))...)
	}
	return factors
}

// classes gives each half-edge a number that stands for all those that it is
// connected with when the crossing and the edges of the half-edges are missing.
func classes(d api.Diagram, missing int, edges ...int) []int {
	class := make([]int, len(d.Mate))
	for h := range class {
		class[h] = h
	}
	for h, mate := range d.Mate {
		if h/4 != missing {
			replace(class, class[h], class[diagram.Turn(h, 1)])
		}
		if !slices.Contains(edges, h) && !slices.Contains(edges, mate) {
			replace(class, class[h], class[mate])
		}
	}
	return class
}

func different(list []int) int {
	sorted := slices.Clone(list)
	slices.Sort(sorted)
	return len(slices.Compact(sorted))
}

func modelCuts(d api.Diagram) [][2]int {
	var cuts [][2]int
	whole := different(classes(d, -1))
	edges := outgoing(d)
	for i, x := range edges {
		for _, y := range edges[i+1:] {
			if different(classes(d, -1, x, y)) > whole {
				cuts = append(cuts, [2]int{x, y})
			}
		}
	}
	return cuts
}

func modelNugatory(d api.Diagram) []int {
	var found []int
	for c := range d.Signs {
		if different(classes(d, c)[4*c:4*c+4]) > 1 {
			found = append(found, c)
		}
	}
	return found
}

func modelAlternating(d api.Diagram) bool {
	for _, comp := range codeOf(d).Comps {
		for i, v := range after(comp, 0) {
			if v.Over == comp[i].Over {
				return false
			}
		}
	}
	return true
}

func equalDiagrams(a, b []api.Diagram) bool { return slices.EqualFunc(a, b, diagram.Equal) }

func TestUnionAsByCodes(t *testing.T) {
	pairs(func(a, b api.Diagram) {
		got, e := connect.Union(a, b)
		if e != api.OK || !diagram.Equal(got, modelUnion(a, b)) || !diagram.Valid(got) {
			t.Fatalf("%v and %v: %v, %d", a, b, got, e)
		}
	})
}

func TestSumAsByCodes(t *testing.T) {
	pairs(func(a, b api.Diagram) {
		for x := -2; x <= len(a.Mate); x++ {
			for y := -2; y <= len(b.Mate); y++ {
				got, e := connect.Sum(a, x, b, y)
				if !isPlace(a, x) || !isPlace(b, y) {
					if e != api.ErrRange || !example.IsZero(got) {
						t.Fatalf("%v at %d and %v at %d: %v, %d", a, x, b, y, got, e)
					}
					continue
				}
				if e != api.OK || !diagram.Equal(got, modelSum(a, x, b, y)) || !diagram.Valid(got) {
					t.Fatalf("%v at %d and %v at %d: %v, %d", a, x, b, y, got, e)
				}
			}
		}
	})
}

func isPlace(d api.Diagram, x int) bool {
	return slices.Contains(outgoing(d), x) || x == -1 && d.Loops > 0
}

func TestSplitAsByCodes(t *testing.T) {
	everyDiagram(func(d api.Diagram) {
		if got := connect.Split(d); !equalDiagrams(got, modelSplit(d)) {
			t.Fatalf("%v: %v", d, got)
		}
	})
}

func TestCrossingsAsByLeavingOut(t *testing.T) {
	everyDiagram(func(d api.Diagram) {
		got, want := connect.Nugatory(d), modelNugatory(d)
		if !slices.Equal(got, want) || connect.Reduced(d) != (len(want) == 0) {
			t.Fatalf("%v: %v, not %v", d, got, want)
		}
		if got := connect.Alternating(d); got != modelAlternating(d) {
			t.Fatalf("%v: alternating %t", d, got)
		}
	})
}

func isSmall(d api.Diagram) bool { return len(d.Signs) <= 6 }

func TestCutsAsByLeavingOut(t *testing.T) {
	everyDiagram(func(d api.Diagram) {
		if len(d.Signs) > 16 {
			return
		}
		if got, want := connect.Cuts(d), modelCuts(d); !slices.Equal(got, want) {
			t.Fatalf("%v: %v, not %v", d, got, want)
		}
	})
}

func TestFactorAsByCodes(t *testing.T) {
	everyDiagram(func(d api.Diagram) {
		if !isSmall(d) {
			return
		}
		edges, cuts := outgoing(d), modelCuts(d)
		for x := -2; x <= len(d.Mate); x++ {
			for y := -2; y <= len(d.Mate); y++ {
				a, b, e := connect.Factor(d, x, y)
				want := api.OK
				switch {
				case !slices.Contains(edges, x) || !slices.Contains(edges, y):
					want = api.ErrRange
				case !slices.Contains(cuts, [2]int{min(x, y), max(x, y)}):
					want = api.ErrMove
				default:
					first, second := modelFactor(d, x, y)
					if !diagram.Equal(a, first) || !diagram.Equal(b, second) || !diagram.Valid(a) || !diagram.Valid(b) {
						t.Fatalf("%v along %d and %d: %v and %v", d, x, y, a, b)
					}
				}
				if e != want || e != api.OK && !(example.IsZero(a) && example.IsZero(b)) {
					t.Fatalf("%v along %d and %d: %v and %v, %d", d, x, y, a, b, e)
				}
			}
		}
	})
}

func TestFactorsAsByCodes(t *testing.T) {
	everyDiagram(func(d api.Diagram) {
		if len(d.Signs) > 16 {
			return
		}
		if got, want := connect.Factors(d), modelFactors(d); !equalDiagrams(got, want) {
			t.Fatalf("%v: %v, not %v", d, got, want)
		}
	})
}
