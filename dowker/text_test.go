package dowker_test

import (
	"math"
	"regexp"
	"slices"
	"strconv"
	"strings"
	"testing"

	"unravel/api"
	"unravel/dowker"
)

func TestFormat(t *testing.T) {
	for _, c := range []struct {
		code []int
		want string
	}{
		{nil, ""},
		{[]int{}, ""},
		{[]int{2}, "2"},
		{[]int{-2}, "-2"},
		{[]int{4, 6, 2}, "4 6 2"},
		{[]int{4, -6, 2}, "4 -6 2"},
		{[]int{-4, -6, -2}, "-4 -6 -2"},
		{[]int{6, 8, 10, 2, 4}, "6 8 10 2 4"},
		{[]int{0}, "0"},
		{[]int{0, 0, 1}, "0 0 1"},
		{[]int{3, 3, -7}, "3 3 -7"},
		{[]int{1000, 100000}, "1000 100000"},
		{[]int{math.MinInt, math.MaxInt}, "-9223372036854775808 9223372036854775807"},
		{evens(-1, 6), "2 -4 6 -8 10 -12"},
		{make([]int, 1<<16), strings.Repeat("0 ", 1<<16-1) + "0"},
	} {
		if s := dowker.Format(c.code); s != c.want {
			t.Errorf("%v: the text %q, not %q", c.code, s, c.want)
		}
	}
	for name, k := range knots() {
		words := strings.Split(dowker.Format(k.code), " ")
		for i, word := range words {
			if len(words) != len(k.code) || word != strconv.Itoa(k.code[i]) {
				t.Errorf("%s: the words %q", name, words)
			}
		}
	}
}

func TestParse(t *testing.T) {
	for s, want := range map[string][]int{
		"2":            {2},
		"-2":           {-2},
		"2 4":          {2, 4},
		"4 -2":         {4, -2},
		"4 6 2":        {4, 6, 2},
		"-4 -6 -2":     {-4, -6, -2},
		"4 6 8 10 2":   {4, 6, 8, 10, 2},
		"6 -8 10 2 -4": {6, -8, 10, 2, -4},
	} {
		code, e := dowker.Parse(s)
		if e != api.OK || !slices.Equal(code, want) {
			t.Errorf("%q: the code %v, %d", s, code, e)
		}
	}
	for n := 1; n <= api.MaxCrossings; n++ {
		for _, code := range [][]int{evens(1, n), evens(-1, n), shifted(n, 3), negated(shifted(n, 5))} {
			if back, e := dowker.Parse(dowker.Format(code)); e != api.OK || !slices.Equal(back, code) {
				t.Errorf("%v: the code %v, %d of its text", code, back, e)
			}
		}
	}
}

func TestParseRefusesMalformedTexts(t *testing.T) {
	for _, s := range []string{
		"", " ", "-", "+", "0", "1", "3", "-1", "4", "-4", "02", "-02", "002", "+2", "--2", "-+2", "-0", "00",
		" 2", "2 ", "  2", "2  ", "\t2", "2\t", "2\n", "\n2", "2\r", "2\v", "2\f", "2\x00", "\x002", "2\u00a0", "2\u2003", "\ufeff2",
		"4  2", "4 6  2", "4\t2", "4\n2", "4\r2", "4\u00a02", "4\u20032", "4 \t2", "4,2", "4, 2", "4;2", "42", "4-2", "4- 2", "- 4 2", "4 - 2",
		"4 06 2", "4 6 02", "04 6 2", "4 +6 2", "+4 6 2", "4 -06 2", "4 6 -0",
		" 4 6 2", "4 6 2 ", " 4 6 2 ", "4 6 2\n",
		"4 6", "4 6 3", "4 6 4", "4 6 -4", "2 2", "2 -2", "-2 2", "4 6 0", "4 8 2", "2 4 6 8 10 -12 100", "4 6 2 2", "2 4 6 10",
		"a", "2a", "a2", "2 a", "4 two", "two", "4 6 2x", "x 4 6 2", "0x2", "0b10", "0o2", "1_0", "2.0", "2e0", "1e1", "2.", "²", "٢", "２", "−2", "4 −2", "\xff", "2 \xff", "2\xff",
		"18446744073709551618", "-18446744073709551618", "4 18446744073709551618", "4294967298", "258", "65538",
		"9223372036854775807", "9223372036854775808", "-9223372036854775808", "-9223372036854775809", "-9223372036854775806",
		"99999999999999999999999999", "4 6 99999999999999999999999999", strings.Repeat("2", 1000), strings.Repeat("0", 1000) + "2",
		dowker.Format(evens(1, api.MaxCrossings+1)), dowker.Format(shifted(api.MaxCrossings+1, 3)), dowker.Format(evens(1, 10000)),
	} {
		if code, e := dowker.Parse(s); e != api.ErrForm || code != nil {
			t.Errorf("%q: the code %v, %d", s, code, e)
		}
	}
}

func TestParseOfLongTexts(t *testing.T) {
	for _, piece := range []string{"2", "2 ", " ", "4 2 ", "-", "x", "\n", "\xff"} {
		long := strings.Repeat(piece, api.MaxText)
		if code, e := dowker.Parse(long[:api.MaxText]); e != api.ErrForm || code != nil {
			t.Errorf("MaxText bytes of %q: %v, %d", piece, code, e)
		}
		for _, s := range []string{(long + long)[:api.MaxText+1], long + long, "2" + strings.Repeat(piece, api.MaxText)} {
			if code, e := dowker.Parse(s); e != api.ErrFull || code != nil {
				t.Errorf("%d bytes of %q: %v, %d", len(s), piece, code, e)
			}
		}
	}
}

func TestInvalidCodesAreNotRead(t *testing.T) {
	for name, code := range invalidCodes() {
		if read, e := dowker.Parse(dowker.Format(code)); e != api.ErrForm || read != nil {
			t.Errorf("%s: the code %v, %d", name, read, e)
		}
	}
}

func TestTextsOfAllSmallCodes(t *testing.T) {
	for n := 1; n <= 4; n++ {
		texts := map[string]bool{}
		everyCode(n, func(code []int) {
			s := dowker.Format(code)
			if back, e := dowker.Parse(s); e != api.OK || !slices.Equal(back, code) || texts[s] {
				t.Fatalf("%v: the code %v, %d of the text %q", code, back, e, s)
			}
			texts[s] = true
		})
	}
}

var plainNumbers = regexp.MustCompile(`\A-?[1-9][0-9]{0,2}( -?[1-9][0-9]{0,2})*\z`)

// compareText compares Parse with a reader that describes a text by a regular
// expression and looks for each even number.
func compareText(t *testing.T, s string) {
	t.Helper()
	code, e := dowker.Parse(s)
	sizes := strings.Split(strings.ReplaceAll(s, "-", ""), " ")
	ok := plainNumbers.MatchString(s) && len(sizes) <= api.MaxCrossings
	for i := range sizes {
		ok = ok && slices.Contains(sizes, strconv.Itoa(2*i+2))
	}
	if !ok {
		if e != api.ErrForm || code != nil {
			t.Fatalf("%q: the code %v, %d", s, code, e)
		}
		return
	}
	if e != api.OK || dowker.Format(code) != s || len(code) != len(sizes) {
		t.Fatalf("%q: the code %v, %d", s, code, e)
	}
}

func TestChangedTexts(t *testing.T) {
	pieces := []string{"", " ", "  ", "-", "+", "0", "1", "2", "3", "4", "6", "8", "14", " 2", "\t", "\n", "x", "\xff", "\u00a0"}
	for _, text := range []string{"2", "-2", "4 2", "-4 -6 -2", "4 6 8 10 -2", "20 2 4 6 8 10 12 14 16 18"} {
		for i := range len(text) + 1 {
			for _, piece := range pieces {
				compareText(t, text[:i]+piece+text[i:])
				if i < len(text) {
					compareText(t, text[:i]+piece+text[i+1:])
				}
			}
		}
	}
}
