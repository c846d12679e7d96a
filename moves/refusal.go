package moves

import (
	"unravel/api"
)

// refusal needs a valid diagram.
func refusal(d api.Diagram, m api.Move, adjoin func(x, y int) bool) api.Errno {
	switch {
	case m.Kind < api.Curl || m.Kind > api.Slide:
		return api.ErrKind
	case !inRange(d, m):
		return api.ErrRange
	case !applicable(d, m, adjoin):
		return api.ErrMove
	case !hasRoom(d, m):
		return api.ErrFull
	}
	return api.OK
}

func inRange(d api.Diagram, m api.Move) bool {
	isPlain := m.Sign == 0 && !m.Over
	isEdge := func(h, least int) bool { return least <= h && h < len(d.Mate) }
	switch m.Kind {
	case api.Curl:
		return isEdge(m.X, loopAlong) && m.Y == 0 && (m.Sign == 1 || m.Sign == -1)
	case api.Uncurl:
		return 0 <= m.X && m.X < len(d.Signs) && m.Y == 0 && isPlain
	case api.Poke:
		return isEdge(m.X, loopAgainst) && isEdge(m.Y, loopAgainst) && pokeSignInRange(m)
	case api.Unpoke:
		return 0 <= m.X && m.X < m.Y && m.Y < len(d.Signs) && isPlain
	}
	return isEdge(m.X, 0) && m.Y == 0 && isPlain
}

func pokeSignInRange(m api.Move) bool {
	switch {
	case m.X != m.Y:
		return m.Sign == 0
	case m.X < 0:
		return m.Sign == 0 || m.Sign == 1
	}
	return m.Sign == 1 || m.Sign == -1
}

func applicable(d api.Diagram, m api.Move, adjoin func(x, y int) bool) bool {
	var found bool
	switch m.Kind {
	case api.Curl:
		found = m.X < 0 && d.Loops > 0 || m.X >= 0 && outgoing(d, m.X)
	case api.Uncurl:
		_, found = endOfKink(d, m.X)
	case api.Poke:
		isOfLoop := m.X < 0 || m.Y < 0
		found = d.Loops >= loopsOf(m) && (isOfLoop || adjoin(m.X, m.Y))
	case api.Unpoke:
		_, found = bigon(d, m.X, m.Y)
	case api.Slide:
		_, found = triangle(d, m.X)
	}
	return found
}

// loopsOf counts the loops that a Curl or a Poke takes; the move of which it is
// the inverse makes as many. With a Sign, X alone is concerned.
func loopsOf(m api.Move) int {
	count := 0
	if m.X < 0 {
		count++
	}
	if m.Y < 0 && m.Sign == 0 {
		count++
	}
	return count
}

func hasRoom(d api.Diagram, m api.Move) bool {
	switch m.Kind {
	case api.Curl:
		return len(d.Signs)+1 <= api.MaxCrossings
	case api.Poke:
		return len(d.Signs)+2 <= api.MaxCrossings
	case api.Uncurl, api.Unpoke:
		return d.Loops+loopsOf(inverse(d, m)) <= api.MaxLoops
	}
	return true
}
