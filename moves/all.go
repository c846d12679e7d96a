package moves

import (
	"unravel/api"
	"unravel/diagram"
)

type trial = func(m api.Move)

func All(d api.Diagram) []api.Move {
	return accepted(d, tryCurls, tryUncurls, tryPokes, tryUnpokes, trySlides)
}

func Removing(d api.Diagram) []api.Move {
	return accepted(d, tryUncurls, tryUnpokes)
}

func Slides(d api.Diagram) []api.Move {
	return accepted(d, trySlides)
}

func accepted(d api.Diagram, candidates ...func(d api.Diagram, try trial)) []api.Move {
	if !diagram.Valid(d) {
		return nil
	}
	var found []api.Move
	adjoin := adjoining(d)
	try := func(m api.Move) {
		if refusal(d, m, adjoin) == api.OK {
			found = append(found, m)
		}
	}
	for _, candidatesOfKind := range candidates {
		candidatesOfKind(d, try)
	}
	return found
}

func tryCurls(d api.Diagram, try trial) {
	for x := loopAlong; x < len(d.Mate); x++ {
		for _, sign := range [...]int{-1, 1} {
			for _, over := range [...]bool{false, true} {
				try(api.Move{Kind: api.Curl, X: x, Sign: sign, Over: over})
			}
		}
	}
}

func tryUncurls(d api.Diagram, try trial) {
	for x := range d.Signs {
		try(api.Move{Kind: api.Uncurl, X: x})
	}
}

func tryPokes(d api.Diagram, try trial) {
	for x := loopAgainst; x < len(d.Mate); x++ {
		for y := loopAgainst; y < len(d.Mate); y++ {
			for _, sign := range [...]int{-1, 0, 1} {
				for _, over := range [...]bool{false, true} {
					try(api.Move{Kind: api.Poke, X: x, Y: y, Sign: sign, Over: over})
				}
			}
		}
	}
}

func tryUnpokes(d api.Diagram, try trial) {
	for x := range d.Signs {
		for y := x + 1; y < len(d.Signs); y++ {
			try(api.Move{Kind: api.Unpoke, X: x, Y: y})
		}
	}
}

// trySlides offers each triangle at the least of its half-edges alone.
func trySlides(d api.Diagram, try trial) {
	for x := range d.Mate {
		if t, found := triangle(d, x); found && x == least(t) {
			try(api.Move{Kind: api.Slide, X: x})
		}
	}
}

// adjoining tells whether a Poke can push the edge of one half-edge over that of
// another one. It numbers the faces when it is asked first, because most moves
// are tried without asking.
func adjoining(d api.Diagram) func(x, y int) bool {
	var face, part []int
	return func(x, y int) bool {
		if face == nil {
			face = placeOfEach(diagram.Faces(d), len(d.Mate))
			part = placeOfEach(diagram.Graph(d), len(d.Signs))
		}
		return face[x] == face[y] || part[x/4] != part[y/4]
	}
}

// placeOfEach gives each number below n the index of the list that contains it.
func placeOfEach(lists [][]int, n int) []int {
	place := make([]int, n)
	for i, members := range lists {
		for _, k := range members {
			place[k] = i
		}
	}
	return place
}
