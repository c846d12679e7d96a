package connect

import (
	"unravel/api"
	"unravel/diagram"
)

// Nugatory compares opposite half-edges alone: the edge between the faces of two
// neighbors separates them, so that these are never the same face.
func Nugatory(d api.Diagram) []int {
	if !diagram.Valid(d) {
		return nil
	}
	var found []int
	face := faceNumbers(d)
	for c := range d.Signs {
		if face[4*c] == face[4*c+2] || face[4*c+1] == face[4*c+3] {
			found = append(found, c)
		}
	}
	return found
}

func Reduced(d api.Diagram) bool {
	return diagram.Valid(d) && len(Nugatory(d)) == 0
}

func Alternating(d api.Diagram) bool {
	if !diagram.Valid(d) {
		return false
	}
	for h, mate := range d.Mate {
		if h%2 == mate%2 {
			return false
		}
	}
	return true
}

// faceNumbers gives each half-edge the number of the face to its left.
func faceNumbers(d api.Diagram) map[int]int {
	number := map[int]int{}
	for i, face := range diagram.Faces(d) {
		for _, h := range face {
			number[h] = i
		}
	}
	return number
}
