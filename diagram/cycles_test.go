package diagram_test

import (
	"math"
	"slices"
	"testing"

	"unravel/api"
	"unravel/diagram"
)

type lists = [][]int

func equalLists(a, b lists) bool { return slices.EqualFunc(a, b, slices.Equal) }

func TestFacesStrandsAndGraph(t *testing.T) {
	for _, c := range []struct {
		name                  string
		d                     api.Diagram
		faces, strands, graph lists
		components            int
	}{
		{"empty", api.Diagram{}, nil, nil, nil, 0},
		{"empty slices", api.Diagram{Signs: []int{}, Mate: []int{}}, nil, nil, nil, 0},
		{"loops", loops(5), nil, nil, nil, 5},
		{"MaxLoops", loops(api.MaxLoops), nil, nil, nil, api.MaxLoops},
		{"kink", kink(), lists{{0}, {1, 3}, {2}}, lists{{1, 2}}, lists{{0}}, 1},
		{"negative kink", negativeKink(), lists{{0, 2}, {1}, {3}}, lists{{2, 3}}, lists{{0}}, 1},
		{"trefoil", trefoil(), lists{{0, 8, 4}, {1, 7}, {2, 6, 10}, {3, 9}, {5, 11}},
			lists{{1, 6, 9, 2, 5, 10}}, lists{{0, 1, 2}}, 1},
		{"left trefoil", twisted(3, -1), lists{{0, 10}, {1, 9, 5}, {2, 4}, {3, 7, 11}, {6, 8}},
			lists{{2, 7, 10, 3, 6, 11}}, lists{{0, 1, 2}}, 1},
		{"Hopf link and a loop", beside(twisted(2, 1), loops(1)), lists{{0, 4}, {1, 7}, {2, 6}, {3, 5}},
			lists{{1, 6}, {2, 5}}, lists{{0, 1}}, 3},
		{"figure-eight knot", figureEight(),
			lists{{0, 10, 4}, {1, 7, 15}, {2, 14}, {3, 13, 11}, {5, 9}, {6, 8, 12}},
			lists{{1, 6, 11, 2, 13, 10, 7, 14}}, lists{{0, 1, 2, 3}}, 1},
		{"Borromean rings", borromean(),
			lists{{0, 18, 14}, {1, 13, 23}, {2, 22, 4}, {3, 7, 19}, {5, 21, 11}, {6, 10, 16}, {8, 20, 12}, {9, 15, 17}},
			lists{{2, 21, 10, 19}, {3, 6, 9, 14}, {7, 18, 13, 22}}, lists{{0, 1, 2, 3, 4, 5}}, 3},
		{"two kinks", beside(kink(), loops(2), negativeKink()), lists{{0}, {1, 3}, {2}, {4, 6}, {5}, {7}},
			lists{{1, 2}, {6, 7}}, lists{{0}, {1}}, 4},
		{"mixed", mixed(),
			lists{{0, 16, 8}, {1, 11}, {2, 10, 18}, {3, 17}, {4, 20, 12}, {5, 15}, {6, 14, 22}, {7, 21}, {9, 19}, {13, 23}},
			lists{{1, 10, 17, 2, 9, 18}, {5, 14, 21, 6, 13, 22}}, lists{{0, 2, 4}, {1, 3, 5}}, 2},
	} {
		if got := diagram.Faces(c.d); !equalLists(got, c.faces) {
			t.Errorf("%s: faces %v", c.name, got)
		}
		if got := diagram.Strands(c.d); !equalLists(got, c.strands) {
			t.Errorf("%s: strands %v", c.name, got)
		}
		if got := diagram.Graph(c.d); !equalLists(got, c.graph) {
			t.Errorf("%s: graph components %v", c.name, got)
		}
		if got := diagram.Components(c.d); got != c.components {
			t.Errorf("%s: %d components", c.name, got)
		}
	}
}

func TestFacesStrandsAndGraphAtTheLimits(t *testing.T) {
	d := twisted(api.MaxCrossings, 1)
	faces := diagram.Faces(d)
	if len(faces) != api.MaxCrossings+2 || len(faces[0]) != api.MaxCrossings || len(faces[1]) != 2 {
		t.Errorf("faces of %d half twists: %v", api.MaxCrossings, faces)
	}
	strands := diagram.Strands(d)
	if len(strands) != 2 || len(strands[0]) != api.MaxCrossings || len(strands[1]) != api.MaxCrossings {
		t.Errorf("strands of %d half twists: %v", api.MaxCrossings, strands)
	}
	if graph := diagram.Graph(d); len(graph) != 1 || len(graph[0]) != api.MaxCrossings {
		t.Errorf("graph components of %d half twists: %v", api.MaxCrossings, graph)
	}
	d = beside(kinks(api.MaxCrossings), loops(api.MaxLoops))
	if n := len(diagram.Faces(d)); n != 3*api.MaxCrossings {
		t.Errorf("%d faces of kinks", n)
	}
	if n := len(diagram.Graph(d)); n != api.MaxCrossings {
		t.Errorf("%d graph components of kinks", n)
	}
	if n := diagram.Components(d); n != api.MaxCrossings+api.MaxLoops {
		t.Errorf("%d components of kinks and loops", n)
	}
}

func TestFace(t *testing.T) {
	for _, c := range []struct {
		d    api.Diagram
		h    int
		want []int
	}{
		{trefoil(), 0, []int{0, 8, 4}},
		{trefoil(), 4, []int{4, 0, 8}},
		{trefoil(), 6, []int{6, 10, 2}},
		{trefoil(), 7, []int{7, 1}},
		{trefoil(), 11, []int{11, 5}},
		{kink(), 2, []int{2}},
		{kink(), 3, []int{3, 1}},
		{figureEight(), 15, []int{15, 1, 7}},
		{mixed(), 20, []int{20, 12, 4}},
	} {
		if got := diagram.Face(c.d, c.h); !slices.Equal(got, c.want) {
			t.Errorf("%v: face %v, not %v", c.d, got, c.want)
		}
	}
}

func TestFaceBeginsWithItsHalfEdge(t *testing.T) {
	for name, d := range valid() {
		for _, face := range diagram.Faces(d) {
			for i, h := range face {
				want := slices.Concat(face[i:], face[:i])
				if got := diagram.Face(d, h); !slices.Equal(got, want) {
					t.Errorf("%s: face %v of %d, not %v", name, got, h, want)
				}
			}
		}
		for _, h := range []int{-1, -4, len(d.Mate), len(d.Mate) + 1, math.MinInt, math.MaxInt} {
			if got := diagram.Face(d, h); len(got) != 0 {
				t.Errorf("%s: face %v of %d, which is no half-edge", name, got, h)
			}
		}
	}
}

func TestNothingOfInvalidDiagrams(t *testing.T) {
	for name, d := range invalid() {
		for _, h := range []int{-1, 0, 1, len(d.Mate)} {
			if got := diagram.Face(d, h); len(got) != 0 {
				t.Errorf("%s: face %v", name, got)
			}
		}
		if got := diagram.Faces(d); len(got) != 0 {
			t.Errorf("%s: faces %v", name, got)
		}
		if got := diagram.Strands(d); len(got) != 0 {
			t.Errorf("%s: strands %v", name, got)
		}
		if got := diagram.Graph(d); len(got) != 0 {
			t.Errorf("%s: graph components %v", name, got)
		}
		if got := diagram.Components(d); got != 0 {
			t.Errorf("%s: %d components", name, got)
		}
	}
}

// The lists of one result share no memory with each other, nor with the diagram.
func TestListsShareNoMemory(t *testing.T) {
	for name, of := range map[string]func(api.Diagram) [][]int{
		"Faces": diagram.Faces, "Strands": diagram.Strands, "Graph": diagram.Graph,
	} {
		d := mixed()
		got := of(d)
		for i := range got {
			overwrite(got[i])
			for k := i + 1; k < len(got); k++ {
				if slices.Contains(got[k], 77) {
					t.Fatalf("%s: lists %d and %d share memory", name, i, k)
				}
			}
		}
		if !diagram.Equal(d, mixed()) {
			t.Errorf("%s: the result shares memory with the diagram", name)
		}
	}
	d := mixed()
	overwrite(diagram.Face(d, 0))
	if !diagram.Equal(d, mixed()) {
		t.Error("Face: the result shares memory with the diagram")
	}
}
