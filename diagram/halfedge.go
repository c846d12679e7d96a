package diagram

import (
	"unravel/api"
)

func Turn(h, by int) int {
	if h < 0 {
		return -1
	}
	slot := (h%4 + by%4 + 4) % 4
	return h - h%4 + slot
}

func Opposite(h int) int {
	return Turn(h, 2)
}

func Out(d api.Diagram, h int) bool {
	return Valid(d) && isHalfEdge(d, h) && outgoing(d, h)
}

func isHalfEdge(d api.Diagram, h int) bool {
	return 0 <= h && h < len(d.Mate)
}

func outgoing(d api.Diagram, h int) bool {
	switch h % 4 {
	case 1:
		return d.Signs[h/4] == 1
	case 2:
		return true
	case 3:
		return d.Signs[h/4] == -1
	}
	return false
}

func nextOfFace(d api.Diagram, h int) int {
	return Turn(d.Mate[h], -1)
}

func nextOfStrand(d api.Diagram, h int) int {
	return Opposite(d.Mate[h])
}
