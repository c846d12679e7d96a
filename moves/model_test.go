package moves_test

import (
	"slices"
	"testing"

	"unravel/api"
	"unravel/diagram"
	"unravel/example"
	"unravel/gauss"
	"unravel/moves"
)

// Moves are made a second time in Gauss codes (2), which know nothing of mates:
// visits are inserted, left out, and exchanged. Whether two edges lie on one face
// is told by the genus of the code after the Poke.

type visits = []gauss.Visit

func visit(crossing int, over bool) gauss.Visit {
	return gauss.Visit{Crossing: crossing, Over: over}
}

func backwards(list visits) visits {
	list = slices.Clone(list)
	slices.Reverse(list)
	return list
}

// edited is the code of a diagram with further crossings. The visits at an
// outgoing half-edge follow that of its crossing; those at -1 and -2 are new
// components, made of loops.
func edited(d api.Diagram, inserted map[int]visits, signs ...int) gauss.Code {
	c := gauss.Code{Signs: slices.Concat(d.Signs, signs), Loops: d.Loops}
	for _, strand := range diagram.Strands(d) {
		var comp visits
		for _, out := range strand {
			comp = append(comp, visit(out/4, out%2 == 1))
			comp = append(comp, inserted[out]...)
		}
		c.Comps = append(c.Comps, comp)
	}
	for _, loop := range []int{-1, -2} {
		if len(inserted[loop]) > 0 {
			c.Comps = append(c.Comps, inserted[loop])
			c.Loops--
		}
	}
	return c
}

// along gives the outgoing half-edge of an edge that is travelled from h, and the
// visits that are met on this way in the order of the strand. A loop has no
// half-edge; it is made a component of its own at the given key.
func along(d api.Diagram, h, key int, met visits) (int, visits) {
	switch {
	case h == -1:
		return key, met
	case h == -2:
		return key, backwards(met)
	case diagram.Out(d, h):
		return h, met
	}
	return d.Mate[h], backwards(met)
}

func modelCurl(d api.Diagram, m api.Move) gauss.Code {
	n := len(d.Signs)
	return edited(d, map[int]visits{m.X: {visit(n, m.Over), visit(n, !m.Over)}}, m.Sign)
}

// modelPoke takes it that a crossing is positive where the over strand, turned
// counterclockwise, gets the direction of the under strand.
func modelPoke(d api.Diagram, m api.Move) gauss.Code {
	n := len(d.Signs)
	other := visits{visit(n, m.Over), visit(n+1, m.Over)}
	line := visits{visit(n+1, !m.Over), visit(n, !m.Over)}
	inserted := map[int]visits{}
	insert := func(h, key int, met visits) {
		at, list := along(d, h, key, met)
		inserted[at] = list
	}
	switch m.Sign {
	case 1:
		insert(m.X, -1, slices.Concat(other, line))
	case -1:
		insert(m.X, -1, slices.Concat(line, other))
	default:
		insert(m.X, -1, other)
		insert(m.Y, -2, line)
	}
	isAlong := func(h int) bool { return h == -1 || diagram.Out(d, h) }
	sign := 1
	if (isAlong(m.X) == isAlong(m.Y)) != m.Over {
		sign = -1
	}
	return edited(d, inserted, sign, -sign)
}

// modelWithout leaves out the visits of some crossings.
func modelWithout(d api.Diagram, removed ...int) gauss.Code {
	all := edited(d, nil)
	c := gauss.Code{Loops: d.Loops}
	number := map[int]int{}
	for crossing, sign := range all.Signs {
		if !slices.Contains(removed, crossing) {
			number[crossing] = len(c.Signs)
			c.Signs = append(c.Signs, sign)
		}
	}
	for _, comp := range all.Comps {
		var kept visits
		for _, v := range comp {
			if k, ok := number[v.Crossing]; ok {
				kept = append(kept, visit(k, v.Over))
			}
		}
		if len(kept) == 0 {
			c.Loops++
		} else {
			c.Comps = append(c.Comps, kept)
		}
	}
	return c
}

// modelSlide exchanges the two visits at the ends of each edge of the triangle.
func modelSlide(d api.Diagram, m api.Move) gauss.Code {
	c := edited(d, nil)
	for _, h := range diagram.Face(d, m.X) {
		for k, strand := range diagram.Strands(d) {
			for i, out := range strand {
				if out == h || out == d.Mate[h] {
					next := (i + 1) % len(strand)
					c.Comps[k][i], c.Comps[k][next] = c.Comps[k][next], c.Comps[k][i]
				}
			}
		}
	}
	return c
}

func modelCode(d api.Diagram, m api.Move) gauss.Code {
	switch m.Kind {
	case api.Curl:
		return modelCurl(d, m)
	case api.Uncurl:
		return modelWithout(d, m.X)
	case api.Poke:
		return modelPoke(d, m)
	case api.Unpoke:
		return modelWithout(d, m.X, m.Y)
	}
	return modelSlide(d, m)
}

// follow reports whether two visits follow one another on a strand, in any order.
func follow(c gauss.Code, a, b gauss.Visit) bool {
	for _, comp := range c.Comps {
		for i, v := range comp {
			next := comp[(i+1)%len(comp)]
			if v == a && next == b || v == b && next == a {
				return true
			}
		}
	}
	return false
}

// modelTriangles lists the half-edges to the left of which there is a triangle
// with an edge that passes over at both ends, and one under.
func modelTriangles(d api.Diagram) []int {
	var found []int
	for _, face := range diagram.Faces(d) {
		var crossings [4 * api.MaxCrossings]bool
		distinct, over, under := 0, false, false
		for _, h := range face {
			if !crossings[h/4] {
				distinct++
			}
			crossings[h/4] = true
			over = over || h%2 == 1 && d.Mate[h]%2 == 1
			under = under || h%2 == 0 && d.Mate[h]%2 == 0
		}
		if len(face) == 3 && distinct == 3 && over && under {
			found = append(found, face...)
		}
	}
	return found
}

// modelAccepts leaves the ranges of the fields to the caller.
func modelAccepts(d api.Diagram, m api.Move) bool {
	switch m.Kind {
	case api.Curl:
		if m.X >= 0 && !diagram.Out(d, m.X) {
			return false
		}
	case api.Uncurl:
		if !follow(edited(d, nil), visit(m.X, true), visit(m.X, false)) {
			return false
		}
	case api.Unpoke:
		c := edited(d, nil)
		over := follow(c, visit(m.X, true), visit(m.Y, true))
		if !over || !follow(c, visit(m.X, false), visit(m.Y, false)) || d.Signs[m.X] == d.Signs[m.Y] {
			return false
		}
	case api.Slide:
		return slices.Contains(modelTriangles(d), m.X)
	case api.Poke:
		if m.Y >= 0 && m.X == d.Mate[m.Y] {
			return false
		}
	}
	_, e := gauss.Diagram(modelCode(d, m))
	return e == api.OK
}

// candidates visits all moves whose fields are in range, in the order of All,
// but with all Slides.
func candidates(d api.Diagram, try func(m api.Move)) {
	flags := []bool{false, true}
	for x := -1; x < len(d.Mate); x++ {
		for _, sign := range []int{-1, 1} {
			for _, over := range flags {
				try(api.Move{Kind: api.Curl, X: x, Sign: sign, Over: over})
			}
		}
	}
	for x := range d.Signs {
		try(api.Move{Kind: api.Uncurl, X: x})
	}
	for x := -2; x < len(d.Mate); x++ {
		for y := -2; y < len(d.Mate); y++ {
			for _, sign := range []int{-1, 0, 1} {
				if x != y && sign != 0 || x == y && x < 0 && sign < 0 || x == y && x >= 0 && sign == 0 {
					continue
				}
				for _, over := range flags {
					try(api.Move{Kind: api.Poke, X: x, Y: y, Sign: sign, Over: over})
				}
			}
		}
	}
	for x := range d.Signs {
		for y := x + 1; y < len(d.Signs); y++ {
			try(api.Move{Kind: api.Unpoke, X: x, Y: y})
		}
	}
	for x := range d.Mate {
		try(api.Move{Kind: api.Slide, X: x})
	}
}

func TestMovesInGaussCodes(t *testing.T) {
	everySmallWithLoops(func(d api.Diagram) {
		candidates(d, func(m api.Move) {
			got, back, e := moves.Apply(d, m)
			if !modelAccepts(d, m) {
				if e != api.ErrMove || !example.IsZero(got) || back != (api.Move{}) {
					t.Fatalf("%v: %v: %v, %v, %d", d, m, got, back, e)
				}
				return
			}
			if want := example.Drawn(modelCode(d, m)); e != api.OK || !diagram.Equal(got, want) {
				t.Fatalf("%v: %v: %v, %d, not %v", d, m, got, e, want)
			}
		})
	})
}

// modelAll leaves out the Slides at a half-edge that is not the least one of its
// triangle.
func modelAll(d api.Diagram) []api.Move {
	var all []api.Move
	candidates(d, func(m api.Move) {
		if modelAccepts(d, m) && (m.Kind != api.Slide || m.X == slices.Min(diagram.Face(d, m.X))) {
			all = append(all, m)
		}
	})
	return all
}

func TestListsOfMoves(t *testing.T) {
	compare := func(d api.Diagram) {
		all := modelAll(d)
		if got := moves.All(d); !slices.Equal(got, all) {
			t.Fatalf("%v: %v, not %v", d, got, all)
		}
		removing := ofKinds(all, api.Uncurl, api.Unpoke)
		if got := moves.Removing(d); !slices.Equal(got, removing) {
			t.Fatalf("%v: %v, not %v", d, got, removing)
		}
		slides := ofKinds(all, api.Slide)
		if got := moves.Slides(d); !slices.Equal(got, slides) {
			t.Fatalf("%v: %v, not %v", d, got, slides)
		}
	}
	everySmallWithLoops(compare)
	for _, d := range example.Small() {
		compare(d)
	}
}

func ofKinds(all []api.Move, kinds ...int) []api.Move {
	var some []api.Move
	for _, m := range all {
		if slices.Contains(kinds, m.Kind) {
			some = append(some, m)
		}
	}
	return some
}

// removedLast numbers the crossings that a move removes as the inverse adds them:
// after all others, P before Q.
func removedLast(d api.Diagram, m api.Move) []int {
	removed := []int{m.X}
	if m.Kind == api.Unpoke {
		p := leastOfBigon(d, m) / 4
		removed = []int{p, m.X + m.Y - p}
	}
	var order []int
	for c := range d.Signs {
		if !slices.Contains(removed, c) {
			order = append(order, c)
		}
	}
	return append(order, removed...)
}

func leastOfBigon(d api.Diagram, m api.Move) int {
	for _, face := range diagram.Faces(d) {
		h := face[0]
		crossings := []int{h / 4, face[len(face)-1] / 4}
		slices.Sort(crossings)
		if len(face) == 2 && slices.Equal(crossings, []int{m.X, m.Y}) && h%2 == d.Mate[h]%2 {
			return h
		}
	}
	panic("leastOfBigon")
}

// leadBack lists all moves from the new diagram to the old one, in which the
// removed crossings were given the last numbers.
func leadBack(d api.Diagram, m api.Move, changed api.Diagram) []api.Move {
	want := d
	if m.Kind == api.Uncurl || m.Kind == api.Unpoke {
		r, e := diagram.Renumber(d, removedLast(d, m))
		if e != api.OK {
			panic("leadBack")
		}
		want = r
	}
	var all []api.Move
	for _, back := range moves.All(changed) {
		if got, _, _ := moves.Apply(changed, back); diagram.Equal(got, want) {
			all = append(all, back)
		}
	}
	return all
}

// obeysRules tells the inverse from others that lead back as well: a circle with
// one kink can be made in two ways, and two circles that overlap in four ways.
func obeysRules(d api.Diagram, m, back api.Move) bool {
	switch m.Kind {
	case api.Uncurl:
		bothOutgoingMated := d.Mate[4*m.X+2]/4 == m.X && d.Mate[4*m.X]/4 == m.X
		return !bothOutgoingMated || !back.Over
	case api.Unpoke:
		east := leastOfBigon(d, m)
		return back.Over == (east%2 == 0) && (back.Y >= 0 || back.Sign != 0 || (back.Y == -1) == !diagram.Out(d, east))
	case api.Slide:
		var opposite []int
		for _, h := range diagram.Face(d, m.X) {
			opposite = append(opposite, diagram.Opposite(h))
		}
		return back.X == slices.Min(opposite)
	}
	return true
}

func TestOnlyTheInverseLeadsBackByTheRules(t *testing.T) {
	count := map[int]int{}
	compare := func(d api.Diagram) {
		for _, m := range moves.All(d) {
			if m.Kind == api.Curl || m.Kind == api.Poke {
				continue
			}
			changed, back, _ := moves.Apply(d, m)
			found := slices.DeleteFunc(leadBack(d, m, changed), func(other api.Move) bool { return !obeysRules(d, m, other) })
			if !slices.Equal(found, []api.Move{back}) {
				t.Fatalf("%v: %v: %v, not %v", d, m, back, found)
			}
			count[m.Kind]++
		}
	}
	everySmallWithLoops(compare)
	for _, d := range example.Small() {
		compare(d)
	}
	if len(count) != 3 {
		t.Error(count)
	}
}
