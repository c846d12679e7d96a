package gauss

import (
	"slices"
	"strconv"
	"strings"

	"unravel/api"
)

func Format(c Code) (string, api.Errno) {
	if !Valid(c) {
		return "", api.ErrArg
	}
	var words []string
	for _, comp := range c.Comps {
		words = append(words, textOf(comp, c.Signs))
	}
	words = append(words, slices.Repeat([]string{"*"}, c.Loops)...)
	return strings.Join(words, " "), api.OK
}

func textOf(visits []Visit, signs []int) string {
	var text strings.Builder
	for _, v := range visits {
		level, sign := byte('U'), byte('-')
		if v.Over {
			level = 'O'
		}
		if signs[v.Crossing] == 1 {
			sign = '+'
		}
		text.WriteByte(level)
		text.WriteString(strconv.Itoa(v.Crossing + 1))
		text.WriteByte(sign)
	}
	return text.String()
}

// Parse need not look for every fault in the words: a text that is not exactly
// the text of the code that was read is no text of a code.
func Parse(s string) (Code, api.Errno) {
	if len(s) > api.MaxText {
		return Code{}, api.ErrFull
	}
	c, ok := read(strings.Fields(s))
	if !ok {
		return Code{}, api.ErrForm
	}
	if text, e := Format(c); e != api.OK || text != s {
		return Code{}, api.ErrForm
	}
	return c, api.OK
}

// read gives the sign 0, which is not valid, to the crossings that the words
// leave out.
func read(words []string) (Code, bool) {
	var c Code
	signs := map[int]int{}
	for _, word := range words {
		if word == "*" {
			c.Loops++
			continue
		}
		visits, ok := readVisits(word, signs)
		if !ok {
			return Code{}, false
		}
		c.Comps = append(c.Comps, visits)
	}
	for crossing := range len(signs) {
		c.Signs = append(c.Signs, signs[crossing])
	}
	return c, true
}

// readVisits also enters the signs of the crossings.
func readVisits(word string, signs map[int]int) ([]Visit, bool) {
	var visits []Visit
	for word != "" {
		end := strings.IndexAny(word, "+-")
		if end < 1 {
			return nil, false
		}
		number, err := strconv.Atoi(word[1:end])
		if err != nil {
			return nil, false
		}
		visits = append(visits, Visit{Crossing: number - 1, Over: word[0] == 'O'})
		signs[number-1] = signOf(word[end])
		word = word[end+1:]
	}
	return visits, true
}

func signOf(letter byte) int {
	if letter == '+' {
		return 1
	}
	return -1
}
