package dowker

import (
	"strconv"
	"strings"

	"unravel/api"
)

func Format(code []int) string {
	words := make([]string, len(code))
	for i, number := range code {
		words[i] = strconv.Itoa(number)
	}
	return strings.Join(words, " ")
}

// Parse compares the text of the code with s, because strings.Fields and Atoi
// take more than single spaces and plain numbers.
func Parse(s string) ([]int, api.Errno) {
	if len(s) > api.MaxText {
		return nil, api.ErrFull
	}
	code, ok := readNumbers(strings.Fields(s))
	if !ok || !Valid(code) || Format(code) != s {
		return nil, api.ErrForm
	}
	return code, api.OK
}

func readNumbers(words []string) ([]int, bool) {
	var numbers []int
	for _, word := range words {
		number, err := strconv.Atoi(word)
		if err != nil {
			return nil, false
		}
		numbers = append(numbers, number)
	}
	return numbers, true
}
