package planar

import (
	"slices"
	"strconv"
	"strings"

	"unravel/api"
	"unravel/diagram"
)

const (
	maxLabel       = 9999
	maxLoopsInText = 999
)

// A code is what the lines of a planar code say: the crossing c has the labels
// 4c to 4c + 3.
type code struct {
	signs, labels []int
	loops         int
}

func Format(d api.Diagram) (string, api.Errno) {
	if !diagram.Valid(d) {
		return "", api.ErrArg
	}
	labels := labelsOf(d)
	var text strings.Builder
	for c, sign := range d.Signs {
		text.WriteString(signText(sign))
		for _, label := range labels[4*c : 4*c+4] {
			text.WriteByte(' ')
			text.WriteString(strconv.Itoa(label))
		}
		text.WriteByte('\n')
	}
	text.WriteString("loops " + strconv.Itoa(d.Loops) + "\n")
	return text.String(), api.OK
}

func signText(sign int) string {
	if sign == 1 {
		return "+"
	}
	return "-"
}

func labelsOf(d api.Diagram) []int {
	labels := make([]int, len(d.Mate))
	for i, out := range slices.Concat(diagram.Strands(d)...) {
		labels[out], labels[d.Mate[out]] = i+1, i+1
	}
	return labels
}

func Parse(s string) (api.Diagram, api.Errno) {
	if len(s) > api.MaxText {
		return api.Diagram{}, api.ErrFull
	}
	c, ok := readLines(s)
	if !ok {
		return api.Diagram{}, api.ErrForm
	}
	if len(c.signs) > api.MaxCrossings || c.loops > api.MaxLoops {
		return api.Diagram{}, api.ErrFull
	}
	mate, ok := matesOf(c)
	if !ok {
		return api.Diagram{}, api.ErrForm
	}
	return drawn(c.signs, mate, c.loops)
}

func readLines(s string) (code, bool) {
	var c code
	for {
		line, rest, ended := strings.Cut(s, "\n")
		if !ended {
			return code{}, false
		}
		if digits, isLast := strings.CutPrefix(line, "loops "); isLast {
			loops, ok := readNumber(digits, maxLoopsInText)
			c.loops = loops
			return c, ok && rest == ""
		}
		sign, labels, ok := readCrossing(line)
		if !ok {
			return code{}, false
		}
		c.signs = append(c.signs, sign)
		c.labels = append(c.labels, labels...)
		s = rest
	}
}

func readCrossing(line string) (int, []int, bool) {
	words := strings.Split(line, " ")
	if len(words) != 5 {
		return 0, nil, false
	}
	sign, ok := readSign(words[0])
	if !ok {
		return 0, nil, false
	}
	var labels []int
	for _, word := range words[1:] {
		label, ok := readNumber(word, maxLabel)
		if !ok || label == 0 {
			return 0, nil, false
		}
		labels = append(labels, label)
	}
	return sign, labels, true
}

func readSign(word string) (int, bool) {
	switch word {
	case "+":
		return 1, true
	case "-":
		return -1, true
	}
	return 0, false
}

// readNumber compares the word with the text of the number, because Atoi also
// takes a sign and leading zeros.
func readNumber(word string, most int) (int, bool) {
	n, err := strconv.Atoi(word)
	ok := err == nil && 0 <= n && n <= most && strconv.Itoa(n) == word
	return n, ok
}

// matesOf asks for no more than different labels at the outgoing half-edges and
// at the incoming ones, and for each label of an outgoing one at an incoming
// one: there are as many outgoing as incoming half-edges.
func matesOf(c code) ([]int, bool) {
	outgoing, incoming := map[int]int{}, map[int]int{}
	for h, label := range c.labels {
		ends := incoming
		if isOut(c.signs, h) {
			ends = outgoing
		}
		if _, taken := ends[label]; taken {
			return nil, false
		}
		ends[label] = h
	}
	mate := make([]int, len(c.labels))
	for label, out := range outgoing {
		in, found := incoming[label]
		if !found {
			return nil, false
		}
		mate[out], mate[in] = in, out
	}
	return mate, true
}
