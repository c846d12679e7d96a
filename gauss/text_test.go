package gauss_test

import (
	"regexp"
	"strconv"
	"strings"
	"testing"

	"unravel/api"
	"unravel/gauss"
)

func TestFormatAndParse(t *testing.T) {
	samples := drawings()
	samples["other beginning"] = drawn{c: code([]int{-1}, 0, []int{1, -1}), s: "O1-U1-"}
	samples["other order"] = drawn{c: code([]int{1, 1}, 1, []int{-2, 2}, []int{1, -1}), s: "U2+O2+ O1+U1+ *"}
	samples["genus 1"] = drawn{c: code([]int{1, 1}, 0, []int{1, 2, -1, -2}), s: "O1+O2+U1+U2+"}
	samples["genus 1, apart"] = drawn{c: code([]int{-1}, 0, []int{-1}, []int{1}), s: "U1- O1-"}
	for name, s := range samples {
		if got, e := gauss.Format(s.c); e != api.OK || got != s.s {
			t.Errorf("%s: the text %q, %d", name, got, e)
		}
		if got, e := gauss.Parse(s.s); e != api.OK || !equal(got, s.c) {
			t.Errorf("%s: the code %v, %d", name, got, e)
		}
	}
}

// notTexts lists strings that are not the texts of codes, by what is wrong.
func notTexts() map[string][]string {
	return map[string][]string{
		"leading zero":        {"O01+U01+", "O01+U1+", "O1+U01+", "O1+U1+O02-U2-", "O001+U1+", "O00+U00+"},
		"number 0":            {"O0+U0+", "O0-U0-", "O1+U1+O0+U0+"},
		"wrong sign":          {"O1*U1*", "O1=U1=", "O1xU1x", "O1 U1 ", "O1±U1±", "O1\uff0bU1\uff0b", "O1\u2212U1\u2212"},
		"missing sign":        {"O1U1", "O1U1+", "O1+U1", "O1+U1+O2U2", "O1", "1+1+"},
		"sign first":          {"O+1U+1", "+O1+U1", "O-1+U-1+", "O+1+U+1+", "-O1-U1"},
		"too many signs":      {"O1++U1++", "O1+U1++", "O1+-U1+-", "+O1+U1+", "O1+U1+-"},
		"two signs":           {"O1+U1-", "O1-U1+", "O1+U2+O3+U1+O2+U3-", "O1+ U1-", "O1+O2-U1+U2+"},
		"leading spaces":      {" O1+U1+", "  O1+U1+", " *", "  "},
		"trailing spaces":     {"O1+U1+ ", "O1+U1+  ", "* ", "O1+U1+ * "},
		"several spaces":      {"O1+U1+  *", "*  *", "O1+U1+  O2-U2-", "O1+U1+ *   *"},
		"spaces only":         {" ", "  ", "\t", "\n", "\r\n", "\u00a0", "\u3000"},
		"other separators":    {"O1+U1+\t*", "O1+U1+\n*", "*\r*", "*\v*", "*\f*", "*\u00a0*", "*\u0085*", "*\u2003*", "*,*", "*;*", "*/*", "*_*", "*\x00*", "O1+U1+,O2-U2-", "O1+U1+\nO2-U2-"},
		"trailing separators": {"O1+U1+\n", "*\n", "O1+U1+\t", "*\x00", "*,", "\ufeffO1+U1+"},
		"spaces within":       {"O 1+U1+", "O1 +U1+", "O1+U1 +", "O1+U1 + *"},
		"no separator":        {"**", "O1+U1+*", "*O1+U1+", "O1+*U1+"},
		"* before a sequence": {"* O1+U1+", "O1+U1+ * O2-U2-", "O1+ * U1+", "* * O1+U1+", "* O1+U1+ *"},
		"other letters":       {"o1+u1+", "O1+u1+", "X1+U1+", "01+U1+", "01+01+", "A1+B1+", "\u00d61+U1+", "\u041e1+U1+", "\xff1+U1+", "unknot"},
		"other stars":         {"\u2217", "* x", "0", "O", "U", "+", "-", "()", "O1+U1+ +", "O1+U1+ O"},
		"other digits":        {"O\u0661+U\u0661+", "O\u00b9+U\u00b9+", "O1_0+U1_0+", "O0x1+U0x1+", "O1.0+U1.0+", "O1e0+U1e0+", "O+U+"},
		"numbers do not fit": {"O9223372036854775807+U9223372036854775807+", "O9223372036854775808+U9223372036854775808+",
			"O18446744073709551617+U18446744073709551617+", "O1+U18446744073709551617+", "O4294967297+U4294967297+",
			"O99999999999999999999999999+U99999999999999999999999999+", "O" + strings.Repeat("9", 50000) + "+U1+"},
		"out of range":       {"O2+U2+", "O1+U1+O3+U3+", "O65+U65+", "O3+U2+O1+U3+O2+U4+"},
		"missing visits":     {"O1+", "U1-", "O1+U2+", "O1+U1+O2+", "O1+U1+ U2-", "O1+U1+ O2+"},
		"visited twice":      {"O1+O1+", "U1+U1+", "O1+U1+O1+", "O1+U1+O1+U1+", "O1+U1+ O1+U1+", "O1+O1+U2+U2+", "O1+ O1+"},
		"too many loops":     {stars(api.MaxLoops + 1), "O1+U1+ " + stars(api.MaxLoops+1), stars(30000)},
		"too many crossings": {kinks(api.MaxCrossings+1, 0).s, twisted(api.MaxCrossings + 2).s, kinks(1000, 0).s},
		"as long as texts may be": {strings.Repeat("*", api.MaxText), strings.Repeat(" ", api.MaxText), strings.Repeat("+", api.MaxText),
			strings.Repeat("O", api.MaxText), strings.Repeat("* ", api.MaxText/2), strings.Repeat("O1+U1+\n*", api.MaxText/8),
			"*" + strings.Repeat(" ", api.MaxText-1), "O" + strings.Repeat("1", api.MaxText-1)},
	}
}

func TestParseErrors(t *testing.T) {
	for fault, texts := range notTexts() {
		for _, s := range texts {
			if c, e := gauss.Parse(s); e != api.ErrForm || !isZero(c) {
				t.Errorf("%s: %.100q yields %v, %d", fault, s, c, e)
			}
		}
	}
	for _, s := range []string{strings.Repeat("*", api.MaxText+1), strings.Repeat(" ", api.MaxText+1),
		"*" + strings.Repeat(" ", api.MaxText), strings.Repeat("* ", api.MaxText/2) + "*",
		"O1+U1+" + strings.Repeat("x", api.MaxText-5), strings.Repeat("O1+U1+ ", api.MaxText)} {
		if c, e := gauss.Parse(s); e != api.ErrFull || !isZero(c) {
			t.Errorf("%d bytes: %v, %d", len(s), c, e)
		}
	}
}

func TestParseOfTextsCutShort(t *testing.T) {
	for _, name := range []string{"trefoil", "figure-eight knot", "negative kink"} {
		s := drawings()[name].s
		for i := 1; i < len(s); i++ {
			for _, part := range []string{s[:i], s[i:]} {
				if c, e := gauss.Parse(part); e != api.ErrForm || !isZero(c) {
					t.Errorf("%q: %v, %d", part, c, e)
				}
			}
		}
	}
}

// Each byte of some texts is left out, replaced, and preceded by others; the
// result is compared with what another reader says.
func TestParseOfChangedTexts(t *testing.T) {
	const letters = "OUou*+- 0123\t\n\x00\x80x"
	for _, name := range []string{"empty", "loops only", "kink", "trefoil", "Hopf link", "unlinked clasp", "trefoil, kink, and loops"} {
		s := drawings()[name].s
		for i := range len(s) + 1 {
			before, behind := s[:i], s[min(i+1, len(s)):]
			changed := []string{before + behind}
			for _, letter := range []byte(letters) {
				changed = append(changed, before+string([]byte{letter})+behind, before+string([]byte{letter})+s[i:])
			}
			for _, text := range changed {
				comparedWithReader(t, text)
			}
		}
	}
}

func comparedWithReader(t *testing.T, text string) {
	t.Helper()
	c, e := gauss.Parse(text)
	if e != api.OK && e != api.ErrForm || (e == api.OK) != isText(text) {
		t.Errorf("%q: %d", text, e)
	}
	if e != api.OK && !isZero(c) {
		t.Errorf("%q: %v beside the error %d", text, c, e)
	}
	if again, f := gauss.Format(c); e == api.OK && (f != api.OK || again != text) {
		t.Errorf("%q: the text %q, %d of its code", text, again, f)
	}
}

var (
	form    = regexp.MustCompile(`^(([OU][1-9][0-9]*[+-])+( |$))*((\* )*\*)?$`)
	passage = regexp.MustCompile(`([OU])([1-9][0-9]*)([+-])`)
)

// isText reads the texts of codes in another way.
func isText(s string) bool {
	if !form.MatchString(s) || strings.HasSuffix(s, " ") || strings.Count(s, "*") > api.MaxLoops {
		return false
	}
	signs := map[string]string{}
	visits := passage.FindAllStringSubmatch(s, -1)
	for _, v := range visits {
		signs[v[1]+v[2]] = v[3]
	}
	n := len(visits) / 2
	for i := range n {
		number := strconv.Itoa(i + 1)
		if signs["O"+number] == "" || signs["O"+number] != signs["U"+number] {
			return false
		}
	}
	return len(visits) == 2*n && n <= api.MaxCrossings
}
