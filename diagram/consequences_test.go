package diagram_test

import (
	"slices"
	"testing"

	"unravel/api"
	"unravel/diagram"
)

func TestEachHalfEdgeIsInOneFaceAndOneStrand(t *testing.T) {
	for name, d := range valid() {
		halfEdges := slices.Concat(diagram.Faces(d)...)
		slices.Sort(halfEdges)
		if len(halfEdges) != len(d.Mate) {
			t.Errorf("%s: %d half-edges in faces", name, len(halfEdges))
		}
		var outgoing []int
		for i, h := range halfEdges {
			if h != i {
				t.Errorf("%s: %d at place %d of the half-edges of faces", name, h, i)
			}
			if diagram.Out(d, h) {
				outgoing = append(outgoing, h)
			}
		}
		onStrands := slices.Concat(diagram.Strands(d)...)
		slices.Sort(onStrands)
		if !slices.Equal(onStrands, outgoing) {
			t.Errorf("%s: %v on strands, but %v are outgoing", name, onStrands, outgoing)
		}
	}
}

func TestListsAreInOrder(t *testing.T) {
	for name, d := range valid() {
		for _, l := range [][][]int{diagram.Faces(d), diagram.Strands(d), diagram.Graph(d)} {
			var first []int
			for _, members := range l {
				if slices.Min(members) != members[0] {
					t.Errorf("%s: %v does not begin with its least member", name, members)
				}
				first = append(first, members[0])
			}
			if !slices.IsSorted(first) {
				t.Errorf("%s: %v is not in ascending order", name, l)
			}
		}
	}
}

func TestEulerCharacteristic(t *testing.T) {
	for name, d := range valid() {
		faces, parts := diagram.Faces(d), diagram.Graph(d)
		if len(faces) != len(d.Signs)+2*len(parts) {
			t.Errorf("%s: %d faces of %d crossings in %d parts", name, len(faces), len(d.Signs), len(parts))
		}
		for _, part := range parts {
			count := 0
			for _, face := range faces {
				if slices.Contains(part, face[0]/4) {
					count++
				}
			}
			if count != len(part)+2 {
				t.Errorf("%s: %d faces at the crossings %v", name, count, part)
			}
		}
	}
}

func TestEdgesSeparateDifferentFaces(t *testing.T) {
	for name, d := range valid() {
		for h, mate := range d.Mate {
			if slices.Contains(diagram.Face(d, h), mate) {
				t.Errorf("%s: the same face at both sides of the edge of %d", name, h)
			}
		}
	}
}

func TestRenumberingPreserves(t *testing.T) {
	for name, d := range valid() {
		for _, order := range orders(len(d.Signs)) {
			r, e := diagram.Renumber(d, order)
			if e != api.OK || !diagram.Valid(r) {
				t.Errorf("%s, %v: not valid", name, order)
			}
			if !slices.Equal(lengths(diagram.Faces(r)), lengths(diagram.Faces(d))) {
				t.Errorf("%s, %v: the faces change", name, order)
			}
			if !slices.Equal(lengths(diagram.Strands(r)), lengths(diagram.Strands(d))) {
				t.Errorf("%s, %v: the strands change", name, order)
			}
			if diagram.Components(r) != diagram.Components(d) {
				t.Errorf("%s, %v: the number of components changes", name, order)
			}
			if !equalLists(renamed(diagram.Graph(r), order), diagram.Graph(d)) {
				t.Errorf("%s, %v: the graph components change", name, order)
			}
		}
	}
}

func TestRenumberingBack(t *testing.T) {
	for name, d := range valid() {
		for _, order := range orders(len(d.Signs)) {
			back := make([]int, len(order))
			for i, c := range order {
				back[c] = i
			}
			r, _ := diagram.Renumber(d, order)
			if r, e := diagram.Renumber(r, back); e != api.OK || !diagram.Equal(r, d) {
				t.Errorf("%s, %v: not the same diagram after the way back", name, order)
			}
		}
	}
}

func lengths(l [][]int) []int {
	var all []int
	for _, members := range l {
		all = append(all, len(members))
	}
	slices.Sort(all)
	return all
}

// renamed gives the crossings of graph components the numbers they had before
// the renumbering.
func renamed(parts [][]int, order []int) [][]int {
	var all [][]int
	for _, part := range parts {
		var before []int
		for _, c := range part {
			before = append(before, order[c])
		}
		slices.Sort(before)
		all = append(all, before)
	}
	slices.SortFunc(all, slices.Compare)
	return all
}
