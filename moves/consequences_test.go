package moves_test

import (
	"slices"
	"testing"

	"unravel/api"
	"unravel/canon"
	"unravel/diagram"
	"unravel/example"
	"unravel/moves"
)

func applyOne(t *testing.T, d api.Diagram, m api.Move) (api.Diagram, api.Move) {
	t.Helper()
	changed, back, e := moves.Apply(d, m)
	if e != api.OK || !diagram.Valid(changed) {
		t.Fatalf("%v: %v: %v, %d", d, m, changed, e)
	}
	return changed, back
}

// checkInverse expects the old diagram back: equal, if the crossings kept their
// numbers, and isomorphic in any case.
func checkInverse(t *testing.T, d api.Diagram, m api.Move) {
	t.Helper()
	changed, back := applyOne(t, d, m)
	again, _ := applyOne(t, changed, back)
	keepsNumbers := m.Kind != api.Uncurl && m.Kind != api.Unpoke
	if !canon.Same(again, d) || keepsNumbers && !diagram.Equal(again, d) {
		t.Fatalf("%v: %v, then %v: %v", d, m, back, again)
	}
	inverseKinds := [...]int{api.Curl: api.Uncurl, api.Uncurl: api.Curl, api.Poke: api.Unpoke, api.Unpoke: api.Poke, api.Slide: api.Slide}
	if back.Kind != inverseKinds[m.Kind] {
		t.Fatalf("%v: %v is undone by %v", d, m, back)
	}
}

func TestTheInverseLeadsBack(t *testing.T) {
	check := func(d api.Diagram) {
		for _, m := range moves.All(d) {
			checkInverse(t, d, m)
		}
	}
	everySmallWithLoops(check)
	for _, d := range example.Small() {
		check(d)
	}
}

func TestTheInverseLeadsBackAtTheLimits(t *testing.T) {
	for _, d := range example.Large() {
		all := moves.All(d)
		for i := 0; i < len(all); i += 1 + len(all)/300 {
			checkInverse(t, d, all[i])
		}
	}
}

func sumOfSigns(d api.Diagram) int {
	sum := 0
	for _, sign := range d.Signs {
		sum += sign
	}
	return sum
}

func TestComponentsAndSigns(t *testing.T) {
	check := func(d api.Diagram) {
		for _, m := range moves.All(d) {
			changed, back := applyOne(t, d, m)
			if diagram.Components(changed) != diagram.Components(d) {
				t.Fatalf("%v: %v: %v has other components", d, m, changed)
			}
			added := [...]int{api.Curl: 1, api.Uncurl: -1, api.Poke: 2, api.Unpoke: -2, api.Slide: 0}[m.Kind]
			if len(changed.Signs) != len(d.Signs)+added {
				t.Fatalf("%v: %v: %v has other crossings", d, m, changed)
			}
			want := sumOfSigns(d)
			switch m.Kind {
			case api.Curl:
				want += m.Sign
			case api.Uncurl:
				want -= back.Sign
			}
			if sumOfSigns(changed) != want {
				t.Fatalf("%v: %v: the signs of %v", d, m, changed)
			}
		}
	}
	everySmallWithLoops(check)
	for _, d := range example.Small() {
		check(d)
	}
}

// The remaining crossings keep their signs and order; a Slide keeps all signs.
func TestOtherCrossingsKeepTheirSigns(t *testing.T) {
	everyClass(func(d api.Diagram) {
		for _, m := range moves.All(d) {
			changed, _ := applyOne(t, d, m)
			var want []int
			for c, sign := range d.Signs {
				isRemoved := m.Kind == api.Uncurl && c == m.X || m.Kind == api.Unpoke && (c == m.X || c == m.Y)
				if !isRemoved {
					want = append(want, sign)
				}
			}
			if m.Kind == api.Slide && len(changed.Signs) != len(want) || !slices.Equal(changed.Signs[:len(want)], want) {
				t.Fatalf("%v: %v: %v", d, m, changed)
			}
		}
	})
}

// orders lists all orders of up to three crossings, and two of more crossings.
func orders(n int) [][]int {
	if n <= 3 {
		return [][][]int{{nil}, {{0}}, {{0, 1}, {1, 0}},
			{{0, 1, 2}, {0, 2, 1}, {1, 0, 2}, {1, 2, 0}, {2, 0, 1}, {2, 1, 0}}}[n]
	}
	var falling, even, odd []int
	for c := range n {
		falling = append(falling, n-1-c)
		if c%2 == 0 {
			even = append(even, c)
		} else {
			odd = append(odd, c)
		}
	}
	return [][]int{falling, slices.Concat(odd, even)}
}

// inOrder is the move of the renumbered diagram. A Slide is named by the least
// half-edge there.
func inOrder(d api.Diagram, m api.Move, order []int) api.Move {
	crossing := func(c int) int { return slices.Index(order, c) }
	halfEdge := func(h int) int {
		if h < 0 {
			return h
		}
		return 4*crossing(h/4) + h%4
	}
	switch m.Kind {
	case api.Curl:
		m.X = halfEdge(m.X)
	case api.Uncurl:
		m.X = crossing(m.X)
	case api.Poke:
		m.X, m.Y = halfEdge(m.X), halfEdge(m.Y)
	case api.Unpoke:
		x, y := crossing(m.X), crossing(m.Y)
		m.X, m.Y = min(x, y), max(x, y)
	case api.Slide:
		face := diagram.Face(d, m.X)
		m.X = min(halfEdge(face[0]), halfEdge(face[1]), halfEdge(face[2]))
	}
	return m
}

// orderAfter is the order of the crossings after the move.
func orderAfter(order []int, m api.Move) []int {
	n := len(order)
	switch m.Kind {
	case api.Curl:
		return append(slices.Clone(order), n)
	case api.Poke:
		return append(slices.Clone(order), n, n+1)
	case api.Slide:
		return order
	}
	isRemoved := func(c int) bool { return c == m.X || m.Kind == api.Unpoke && c == m.Y }
	var after []int
	for _, c := range order {
		if isRemoved(c) {
			continue
		}
		for other := range c {
			if isRemoved(other) {
				c--
			}
		}
		after = append(after, c)
	}
	return after
}

func TestMovesDoNotDependOnTheNumbering(t *testing.T) {
	check := func(d api.Diagram) {
		all := moves.All(d)
		for _, order := range orders(len(d.Signs)) {
			other, _ := diagram.Renumber(d, order)
			others := moves.All(other)
			if len(others) != len(all) {
				t.Fatalf("%v: %v: %d moves, not %d", d, order, len(others), len(all))
			}
			for _, m := range all {
				same := inOrder(d, m, order)
				if !slices.Contains(others, same) {
					t.Fatalf("%v: %v: no %v, which was %v", d, order, same, m)
				}
				changed, _ := applyOne(t, d, m)
				want, _ := diagram.Renumber(changed, orderAfter(order, m))
				if got, _ := applyOne(t, other, same); !diagram.Equal(got, want) {
					t.Fatalf("%v: %v: %v: %v, not %v", d, order, same, got, want)
				}
			}
		}
	}
	everyClass(check)
	for _, d := range example.Small() {
		check(d)
	}
}
