package planar

import (
	"unravel/api"
	"unravel/diagram"
)

func Encode(d api.Diagram) ([]byte, api.Errno) {
	if !diagram.Valid(d) {
		return nil, api.ErrArg
	}
	n := len(d.Signs)
	b := []byte{byte(n), byte(d.Loops)}
	b = append(b, bitsOf(d.Signs)...)
	for h, mate := range d.Mate {
		if isOut(d.Signs, h) {
			b = append(b, byte(mate))
		}
	}
	return b, api.OK
}

func bitsOf(signs []int) []byte {
	bits := make([]byte, bytesOfSigns(len(signs)))
	for c, sign := range signs {
		if sign == 1 {
			bits[c/8] |= 1 << (c % 8)
		}
	}
	return bits
}

func bytesOfSigns(n int) int { return (n + 7) / 8 }

func Decode(b []byte) (api.Diagram, api.Errno) {
	if len(b) < 2 {
		return api.Diagram{}, api.ErrEnd
	}
	n, loops := int(b[0]), int(b[1])
	if n > api.MaxCrossings || loops > api.MaxLoops {
		return api.Diagram{}, api.ErrFull
	}
	firstMate := 2 + bytesOfSigns(n)
	end := firstMate + 2*n
	if len(b) < end {
		return api.Diagram{}, api.ErrEnd
	}
	if len(b) > end {
		return api.Diagram{}, api.ErrForm
	}
	signs, ok := readBits(b[2:firstMate], n)
	if !ok {
		return api.Diagram{}, api.ErrForm
	}
	mate, ok := readMates(b[firstMate:], signs)
	if !ok {
		return api.Diagram{}, api.ErrForm
	}
	return drawn(signs, mate, loops)
}

// readBits also reports whether the unused bits are 0.
func readBits(bits []byte, n int) ([]int, bool) {
	signs := make([]int, n)
	for c := range signs {
		signs[c] = 2*int(bits[c/8]>>(c%8)&1) - 1
	}
	unusedSet := n%8 != 0 && bits[n/8]>>(n%8) != 0
	return signs, !unusedSet
}

// readMates reports whether the mates are incoming half-edges, none of them
// twice.
func readMates(mates []byte, signs []int) ([]int, bool) {
	mate := make([]int, 4*len(signs))
	taken := map[int]bool{}
	next := 0
	for h := range mate {
		if !isOut(signs, h) {
			continue
		}
		in := int(mates[next])
		next++
		if in >= len(mate) || isOut(signs, in) || taken[in] {
			return nil, false
		}
		taken[in] = true
		mate[h], mate[in] = in, h
	}
	return mate, true
}
