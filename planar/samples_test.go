package planar_test

import (
	"math"
	"slices"
	"strconv"
	"strings"

	"unravel/api"
)

// A drawing is a diagram with its text and its binary form.
type drawing struct {
	d     api.Diagram
	text  string
	bytes []byte
}

func diagramOf(signs []int, loops int, mate ...int) api.Diagram {
	return api.Diagram{Signs: signs, Mate: mate, Loops: loops}
}

// drawings lists diagrams with their forms, by names.
func drawings() map[string]drawing {
	trefoil := []int{9, 4, 7, 10, 1, 8, 11, 2, 5, 0, 3, 6}
	return map[string]drawing{
		"empty":         {text: "loops 0\n", bytes: []byte{0, 0}},
		"empty slices":  {diagramOf([]int{}, 0, []int{}...), "loops 0\n", []byte{0, 0}},
		"one loop":      {diagramOf(nil, 1), "loops 1\n", []byte{0, 1}},
		"loops only":    {diagramOf(nil, 10), "loops 10\n", []byte{0, 10}},
		"MaxLoops":      {diagramOf(nil, api.MaxLoops), "loops 64\n", []byte{0, 64}},
		"kink":          {diagramOf([]int{1}, 0, 1, 0, 3, 2), "+ 1 1 2 2\nloops 0\n", []byte{1, 0, 1, 0, 3}},
		"negative kink": {diagramOf([]int{-1}, 0, 3, 2, 1, 0), "- 2 1 1 2\nloops 0\n", []byte{1, 0, 0, 1, 0}},
		"trefoil": {diagramOf([]int{1, 1, 1}, 0, trefoil...),
			"+ 3 1 4 6\n+ 1 5 2 4\n+ 5 3 6 2\nloops 0\n", []byte{3, 0, 7, 4, 7, 8, 11, 0, 3}},
		"left trefoil": {diagramOf([]int{-1, -1, -1}, 0, 11, 10, 5, 4, 3, 2, 9, 8, 7, 6, 1, 0),
			"- 6 3 1 4\n- 4 1 5 2\n- 2 5 3 6\nloops 0\n", []byte{3, 0, 0, 5, 4, 9, 8, 1, 0}},
		"figure-eight knot": {diagramOf([]int{1, -1, -1, 1}, 0, 11, 4, 15, 14, 1, 10, 9, 12, 13, 6, 5, 0, 7, 8, 3, 2),
			"+ 3 1 4 8\n- 1 6 2 7\n- 5 2 6 3\n+ 7 5 8 4\nloops 0\n",
			[]byte{4, 0, 0b1001, 4, 15, 9, 12, 5, 0, 8, 3}},
		"Hopf link": {diagramOf([]int{1, 1}, 0, 5, 4, 7, 6, 1, 0, 3, 2),
			"+ 4 1 3 2\n+ 1 4 2 3\nloops 0\n", []byte{2, 0, 3, 4, 7, 0, 3}},
		"negative Hopf link": {diagramOf([]int{-1, -1}, 0, 7, 6, 5, 4, 3, 2, 1, 0),
			"- 2 4 1 3\n- 3 1 4 2\nloops 0\n", []byte{2, 0, 0, 5, 4, 1, 0}},
		"unlinked clasp": {diagramOf([]int{1, -1}, 2, 6, 5, 4, 7, 2, 1, 0, 3),
			"+ 4 1 3 2\n- 3 1 4 2\nloops 2\n", []byte{2, 2, 1, 5, 4, 0, 3}},
		"Borromean rings": {diagramOf([]int{-1, -1, 1, 1, -1, 1}, 0,
			19, 14, 23, 4, 3, 22, 11, 16, 21, 12, 17, 6, 9, 20, 1, 18, 7, 10, 15, 0, 13, 8, 5, 2),
			"- 4 8 1 5\n- 5 12 6 9\n+ 2 7 3 6\n+ 7 11 8 10\n- 9 3 10 4\n+ 11 2 12 1\nloops 0\n",
			[]byte{6, 0, 0b101100, 23, 4, 11, 16, 12, 17, 20, 1, 15, 0, 8, 5}},
		"trefoil, kink, and loops": {diagramOf([]int{1, 1, 1, -1}, 2, slices.Concat(trefoil, []int{15, 14, 13, 12})...),
			"+ 3 1 4 6\n+ 1 5 2 4\n+ 5 3 6 2\n- 8 7 7 8\nloops 2\n",
			[]byte{4, 2, 7, 4, 7, 8, 11, 0, 3, 13, 12}},
		"two trefoils that alternate": {diagramOf([]int{1, 1, 1, 1, 1, 1}, 0,
			17, 8, 11, 18, 21, 12, 15, 22, 1, 16, 19, 2, 5, 20, 23, 6, 9, 0, 3, 10, 13, 4, 7, 14),
			"+ 3 1 4 6\n+ 9 7 10 12\n+ 1 5 2 4\n+ 7 11 8 10\n+ 5 3 6 2\n+ 11 9 12 8\nloops 0\n",
			[]byte{6, 0, 63, 8, 11, 12, 15, 16, 19, 20, 23, 0, 3, 4, 7}},
		"eight kinks": kinks([]int{-1, 1, 1, -1, 1, -1, -1, 1}, 0, 0b10010110),
		"ten kinks":   kinks([]int{1, -1, -1, 1, 1, 1, -1, 1, -1, 1}, 3, 0b10111001, 0b10),
		"positive kinks, all limits": kinks(slices.Repeat([]int{1}, api.MaxCrossings), api.MaxLoops,
			slices.Repeat([]byte{255}, 8)...),
		"negative kinks, all limits": kinks(slices.Repeat([]int{-1}, api.MaxCrossings), api.MaxLoops,
			make([]byte, 8)...),
		"MaxCrossings": twisted(api.MaxCrossings),
	}
}

// kinks is crossings that are graph components of their own, with loops; bits
// are the bytes of their signs.
func kinks(signs []int, loops int, bits ...byte) drawing {
	k := drawing{d: diagramOf(signs, loops), bytes: append([]byte{byte(len(signs)), byte(loops)}, bits...)}
	for c, sign := range signs {
		h, first, second := 4*c, " "+strconv.Itoa(2*c+1), " "+strconv.Itoa(2*c+2)
		if sign == 1 {
			k.d.Mate = append(k.d.Mate, h+1, h, h+3, h+2)
			k.text += "+" + first + first + second + second + "\n"
			k.bytes = append(k.bytes, byte(h), byte(h+3))
		} else {
			k.d.Mate = append(k.d.Mate, h+3, h+2, h+1, h)
			k.text += "-" + second + first + first + second + "\n"
			k.bytes = append(k.bytes, byte(h+1), byte(h))
		}
	}
	k.text += "loops " + strconv.Itoa(loops) + "\n"
	return k
}

// twisted is the closure of the braid on two strands with n crossings of the
// sign +1, where n is even. The labels 1 to n are on the strand that goes over
// crossing 0, and the others on the strand that goes under it.
func twisted(n int) drawing {
	t := drawing{d: diagramOf(slices.Repeat([]int{1}, n), 0), bytes: []byte{byte(n), 0}}
	t.bytes = append(t.bytes, slices.Repeat([]byte{255}, n/8)...)
	for c := range n {
		above, below := 4*((c+n-1)%n), 4*((c+1)%n)
		t.d.Mate = append(t.d.Mate, above+1, below, below+3, above+2)
		t.bytes = append(t.bytes, byte(below), byte(below+3))
		over, under := (c+n-1)%n+1, (c+n-1)%n+1+n
		nextOver, nextUnder := c+1, c+1+n
		if c%2 == 1 {
			over, under, nextOver, nextUnder = under, over, nextUnder, nextOver
		}
		t.text += "+ " + strconv.Itoa(under) + " " + strconv.Itoa(nextOver) + " " +
			strconv.Itoa(nextUnder) + " " + strconv.Itoa(over) + "\n"
	}
	t.text += "loops 0\n"
	return t
}

// invalidDiagrams lists diagrams that are not valid.
func invalidDiagrams() []api.Diagram {
	return []api.Diagram{
		diagramOf([]int{1}, 0, 2, 3, 0, 1),
		diagramOf([]int{1}, 0, 3, 2, 1, 0),
		diagramOf([]int{-1}, 0, 1, 0, 3, 2),
		diagramOf([]int{0}, 0, 1, 0, 3, 2),
		diagramOf([]int{1}, 0, 1, 0, 3),
		diagramOf([]int{1}, 0, 1, 0, 3, 4),
		diagramOf([]int{1}, 0, -1, 0, 3, 2),
		diagramOf([]int{1}, 0, 0, 1, 2, 3),
		diagramOf([]int{1}, 0, 257, 256, 259, 258),
		diagramOf([]int{1}, 0),
		diagramOf(nil, 0, 1, 0),
		diagramOf([]int{1}, -1, 1, 0, 3, 2),
		diagramOf([]int{1}, api.MaxLoops+1, 1, 0, 3, 2),
		diagramOf(nil, -1),
		diagramOf(nil, math.MinInt),
		diagramOf(nil, api.MaxLoops+1),
		diagramOf(nil, 256),
		diagramOf(nil, math.MaxInt),
		kinks(slices.Repeat([]int{-1}, api.MaxCrossings+1), 0).d,
		kinks(slices.Repeat([]int{1}, 256), 0).d,
		twisted(api.MaxCrossings + 2).d,
	}
}

// manyLines is n lines of crossings with labels of their own, without a last line.
func manyLines(n int) string {
	var text strings.Builder
	for c := range n {
		first, second := strconv.Itoa(2*c%9998+1), strconv.Itoa(2*c%9998+2)
		text.WriteString("+ " + first + " " + first + " " + second + " " + second + "\n")
	}
	return text.String()
}
