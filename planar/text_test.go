package planar_test

import (
	"maps"
	"slices"
	"strings"
	"testing"

	"unravel/api"
	"unravel/diagram"
	"unravel/planar"
)

func isZero(d api.Diagram) bool { return diagram.Equal(d, api.Diagram{}) }

func TestFormat(t *testing.T) {
	for name, s := range drawings() {
		if got, e := planar.Format(s.d); e != api.OK || got != s.text {
			t.Errorf("%s: the text %q, %d", name, got, e)
		}
	}
	for _, d := range invalidDiagrams() {
		if got, e := planar.Format(d); e != api.ErrArg || got != "" {
			t.Errorf("%v: the text %q, %d", d, got, e)
		}
	}
}

func TestFormatNumbersEdgesAlongStrands(t *testing.T) {
	for name, s := range drawings() {
		text, _ := planar.Format(s.d)
		lines := strings.Split(text, "\n")
		number := 0
		for _, strand := range diagram.Strands(s.d) {
			for _, h := range strand {
				number++
				for _, end := range []int{h, s.d.Mate[h]} {
					if label := strings.Split(lines[end/4], " ")[1+end%4]; label != digits(number) {
						t.Errorf("%s: the label %s of %d, not %d", name, label, end, number)
					}
				}
			}
		}
	}
}

// digits writes numbers without the library that the program uses.
func digits(n int) string {
	if n < 10 {
		return string(rune('0' + n))
	}
	return digits(n/10) + digits(n%10)
}

func TestParse(t *testing.T) {
	for name, s := range drawings() {
		if d, e := planar.Parse(s.text); e != api.OK || !diagram.Equal(d, s.d) {
			t.Errorf("%s: the diagram %v, %d", name, d, e)
		}
	}
}

func TestParseOfOtherLabels(t *testing.T) {
	samples := drawings()
	for text, name := range map[string]string{
		"+ 2 2 1 1\nloops 0\n":                                        "kink",
		"+ 9999 9999 1 1\nloops 0\n":                                  "kink",
		"+ 1 1 9999 9999\nloops 0\n":                                  "kink",
		"+ 1000 1000 999 999\nloops 0\n":                              "kink",
		"- 10 100 100 10\nloops 0\n":                                  "negative kink",
		"- 1 2 2 1\nloops 0\n":                                        "negative kink",
		"+ 30 10 40 60\n+ 10 50 20 40\n+ 50 30 60 20\nloops 0\n":      "trefoil",
		"+ 4 6 3 1\n+ 6 2 5 3\n+ 2 4 1 5\nloops 0\n":                  "trefoil",
		"- 4 5 7 2\n- 2 7 3 9990\n- 9990 3 5 4\nloops 0\n":            "left trefoil",
		"+ 1 2 3 4\n+ 2 1 4 3\nloops 0\n":                             "Hopf link",
		"+ 9990 9991 9992 9993\n- 9992 9991 9990 9993\nloops 2\n":     "unlinked clasp",
		"+ 8 6 9 11\n+ 6 10 7 9\n+ 10 8 11 7\n- 2 1 1 2\nloops 2\n":   "trefoil, kink, and loops",
		"+ 3 9 4 6\n+ 9 5 2 4\n+ 5 3 6 2\n- 7777 1 1 7777\nloops 2\n": "trefoil, kink, and loops",
	} {
		if d, e := planar.Parse(text); e != api.OK || !diagram.Equal(d, samples[name].d) {
			t.Errorf("%q: the diagram %v, %d is not the %s", text, d, e, name)
		}
	}
}

// notForms lists texts that do not consist of lines of the form, by what is
// wrong. Some of them have later faults, too.
func notForms() map[string][]string {
	tooMany := manyLines(api.MaxCrossings + 1)
	return map[string][]string{
		"no last line": {"", "\n", "+ 1 1 2 2\n", "+ 3 1 4 6\n+ 1 5 2 4\n+ 5 3 6 2\n", "- 2 1 1 2\n", tooMany},
		"no last line feed": {"loops 0", "loops 64", "loops 65", "loops", "+ 1 1 2 2\nloops 0", "+ 1 1 2 2", "+ 1 1 2 2\nloops",
			"+ 1 1 2 2\nl", "+", " ", "x", tooMany + "loops 0"},
		"another last line": {"loop 0\n", "Loops 0\n", "LOOPS 0\n", "loops\n", "loops \n", "loops0\n", "loops: 0\n", "loops=0\n", "0\n",
			"loops x\n", "loops 0 0\n", "loops +0\n", "loops -0\n", "loops -1\n", "loops 0.\n", "loops 1e1\n", "loops 0x1\n", "loops 1_0\n",
			"loops \u0661\n", "* *\n", "+ 1 1 2 2\nloop 0\n", "xloops 0\n", "\ufeffloops 0\n"},
		"last line not last": {"loops 0\nloops 0\n", "loops 0\n\n", "loops 0\n ", "loops 0\nx", "loops 0\n+ 1 1 2 2\n", "loops 0\n+ 1 1 2 2\nloops 0\n",
			"loops 0\n\x00", "+ 1 1 2 2\nloops 0\n- 4 3 3 4\n", "loops 0\nloops 0", "loops 64\nloops 65\n", "+ 1 1 2 2\nloops 0\nloops"},
		"wrong sign": {"* 1 1 2 2\nloops 0\n", "1 1 1 2 2\nloops 0\n", "+1 1 1 2 2\nloops 0\n", "-1 2 1 1 2\nloops 0\n", "++ 1 1 2 2\nloops 0\n",
			"+- 1 1 2 2\nloops 0\n", "x 1 1 2 2\nloops 0\n", "\u2212 2 1 1 2\nloops 0\n", " 1 1 2 2\nloops 0\n", "\xff 1 1 2 2\nloops 0\n",
			"+ 1 1 2 2\n* 3 3 4 4\nloops 0\n", "0 1 1 2 2\nloops 0\n", "p 1 1 2 2\nloops 0\n", "loops 1 1 2 2\nloops 0\n"},
		"missing sign": {"1 1 2 2\nloops 0\n", "+ 1 1 2 2\n3 3 4 4\nloops 0\n"},
		"sign only":    {"+\nloops 0\n", "-\nloops 0\n", "+ \nloops 0\n", "+    \nloops 0\n"},
		"too few labels": {"+ 1\nloops 0\n", "+ 1 1\nloops 0\n", "+ 1 1 2\nloops 0\n", "+ 1 1 2 \nloops 0\n", "+ 1 1  2\nloops 0\n",
			"+ 1 1 2 2\n- 3 3\nloops 0\n"},
		"too many labels": {"+ 1 1 2 2 3\nloops 0\n", "+ 1 1 2 2 3 3\nloops 0\n", "+ 1 1 2 2 + 3 3 4 4\nloops 0\n", "+ 1 1 2 2 loops 0\n"},
		"too many blanks": {" + 1 1 2 2\nloops 0\n", "+  1 1 2 2\nloops 0\n", "+ 1  1 2 2\nloops 0\n", "+ 1 1  2 2\nloops 0\n", "+ 1 1 2  2\nloops 0\n",
			"+ 1 1 2 2 \nloops 0\n", " loops 0\n", "loops  0\n", "loops 0 \n", "+ 1 1 2 2\n loops 0\n", "+ 1 1 2 2\nloops 0\n ", " + 1 1 2 2\n loops 0\n"},
		"too few blanks": {"+1 1 2 2\nloops 0\n", "+ 11 2 2\nloops 0\n", "+ 1 12 2\nloops 0\n", "+1122\nloops 0\n", "+ 1122\nloops 0\n", "+ 1 1 2 2\nloops0\n"},
		"other separators": {"+\t1\t1\t2\t2\nloops 0\n", "+ 1 1 2\t2\nloops 0\n", "+ 1,1,2,2\nloops 0\n", "+ 1, 1, 2, 2\nloops 0\n", "+[1 1 2 2]\nloops 0\n",
			"+ 1 1 2\u00a02\nloops 0\n", "loops\t0\n", "loops\u00a00\n", "+ 1 1 2 2\vloops 0\n", "+ 1\n1 2 2\nloops 0\n", "+ 1 1 2 2;loops 0\n", "loops\n0\n"},
		"other line ends": {"+ 1 1 2 2\r\nloops 0\r\n", "+ 1 1 2 2\r\nloops 0\n", "+ 1 1 2 2\nloops 0\r\n", "+ 1 1 2 2\rloops 0\r", "loops 0\r", "loops 0\r\n", "loops 0\x00",
			"+ 1 1 2 2\u0085loops 0\n", "+ 1 1 2 2\u2028loops 0\n", "+ 1 1 2 2 loops 0\n", "+ 1 1 2 2loops 0\n"},
		"empty lines": {"\nloops 0\n", "\n+ 1 1 2 2\nloops 0\n", "+ 1 1 2 2\n\nloops 0\n", "+ 1 1 2 2\n\n- 4 3 3 4\nloops 0\n", "+ 1 1 2 2\nloops 0\n\n", "\n\n", " \nloops 0\n"},
		"leading zeros": {"+ 01 1 2 2\nloops 0\n", "+ 01 01 2 2\nloops 0\n", "+ 1 1 2 02\nloops 0\n", "+ 1 1 002 002\nloops 0\n",
			"+ 0001 0001 2 2\nloops 0\n", "+ 00001 00001 2 2\nloops 0\n", "- 2 1 01 2\nloops 0\n"},
		"label 0": {"+ 0 0 1 1\nloops 0\n", "+ 1 1 0 0\nloops 0\n", "+ 0 0 0 0\nloops 0\n", "+ 00 00 1 1\nloops 0\n", "+ 1 1 2 0\nloops 0\n", "- 0 1 1 0\nloops 0\n"},
		"label above 9,999": {"+ 10000 10000 1 1\nloops 0\n", "+ 1 1 10000 10000\nloops 0\n", "+ 1 1 2 10000\nloops 0\n", "+ 99999 99999 1 1\nloops 0\n",
			"+ 65537 65537 1 1\nloops 0\n", "+ 4294967297 4294967297 1 1\nloops 0\n", "+ 9223372036854775807 9223372036854775807 1 1\nloops 0\n",
			"+ 18446744073709551617 1 2 2\nloops 0\n", "+ 9,999 9,999 1 1\nloops 0\n", "+ " + strings.Repeat("9", 60000) + " 1 2 2\nloops 0\n"},
		"label with a sign":    {"+ +1 +1 2 2\nloops 0\n", "+ -1 -1 2 2\nloops 0\n", "+ 1 1 2 -2\nloops 0\n", "+ +1 1 2 2\nloops 0\n"},
		"label not in decimal": {"+ a a b b\nloops 0\n", "+ 0x1 0x1 2 2\nloops 0\n", "+ 1_0 1_0 2 2\nloops 0\n", "+ 1.0 1.0 2 2\nloops 0\n", "+ 1e1 1e1 2 2\nloops 0\n", "+ \u0661 \u0661 2 2\nloops 0\n", "+ 1 1 2 \xb2\nloops 0\n"},
		"Loops with a leading zero": {"loops 00\n", "loops 01\n", "loops 000\n", "loops 001\n", "loops 064\n", "loops 065\n", "+ 1 1 2 2\nloops 00\n",
			"loops 0000\n", "loops 00000000000000000000000\n"},
		"Loops with more than three digits": {"loops 1000\n", "loops 9999\n", "loops 10000\n", "loops 0001\n", "loops 65536\n", "loops 4294967296\n", "loops 9223372036854775807\n",
			"loops 9223372036854775808\n", "loops 18446744073709551616\n", "+ 1 1 2 2\nloops 1000\n", "loops " + strings.Repeat("1", 60000) + "\n"},
		// a fault of the form is named before all later ones
		"too many crossings, too": {"+ 0 0 1 1\n" + tooMany + "loops 0\n", tooMany + "+ 1 1 2 10000\nloops 0\n", tooMany + "loops 1000\n", tooMany + "loops 00\n",
			tooMany + "loops 0\n\n", tooMany + "* 1 1 2 2\nloops 0\n", tooMany + "\nloops 0\n", manyLines(3000), manyLines(3000) + "loops 0"},
		"too many loops, too":          {"+ 1 1 2 10000\nloops 65\n", "+ 1 1 2\nloops 999\n", "loops 65\n\n", "loops 65", "loops 65 \n"},
		"labels that do not pair, too": {"+ 1 1 1 0\nloops 0\n", "+ 1 2 3 04\nloops 0\n", "+ 1 2 3 4\n", "+ 1 2 3 4\nloops 01\n"},
		"genus 1, too":                 {"+ 1 2 1 2\nloops 00\n", "+ 1 2 1 2\n", "+ 1 2 1 2\nloops 0", "+ 1 2 1 2\n\nloops 0\n"},
		"as long as texts may be": {strings.Repeat("x", api.MaxText), strings.Repeat("\n", api.MaxText), strings.Repeat(" ", api.MaxText),
			strings.Repeat("+ ", api.MaxText/2), strings.Repeat("+\n", api.MaxText/2), "loops 0\n" + strings.Repeat("\n", api.MaxText-8),
			"loops " + strings.Repeat("0", api.MaxText-7) + "\n", "+ 1 1 2 2" + strings.Repeat(" ", api.MaxText-9)},
	}
}

// notFull lists texts of the form, but of too many crossings or loops. Some of
// them have later faults, too.
func notFull() []string {
	tooMany := manyLines(api.MaxCrossings + 1)
	return []string{
		"loops 65\n", "loops 99\n", "loops 100\n", "loops 256\n", "loops 999\n", "+ 1 1 2 2\nloops 65\n", "+ 1 1 2 2\nloops 320\n",
		tooMany + "loops 0\n", tooMany + "loops 64\n", tooMany + "loops 65\n", manyLines(256) + "loops 0\n", manyLines(3000) + "loops 0\n",
		twisted(api.MaxCrossings + 2).text, manyLines(api.MaxCrossings) + "loops 65\n",
		// labels that do not pair, too
		"+ 1 1 1 1\nloops 65\n", "+ 1 2 3 4\nloops 999\n", "+ 1 2 2 1\nloops 65\n", tooMany + "+ 1 1 1 1\nloops 0\n", manyLines(4999) + "loops 0\n",
		strings.Repeat("- 1 2 3 4\n", 65) + "loops 0\n", strings.Repeat("+ 1 1 2 2\n", 6000) + "loops 7\n",
		// genus 1, too
		"+ 1 2 1 2\nloops 65\n", tooMany + "+ 9998 9999 9998 9999\nloops 0\n",
	}
}

// notPaired lists texts of the form with labels that do not pair, by what is
// wrong. Some of them cannot be drawn on a sphere, either.
func notPaired() map[string][]string {
	return map[string][]string{
		"label once":        {"+ 1 1 2 3\nloops 0\n", "+ 1 2 3 4\nloops 0\n", "+ 1 1 2 2\n- 4 3 3 5\nloops 0\n", "+ 3 1 4 6\n+ 1 5 2 4\n+ 5 3 6 7\nloops 0\n", "+ 1 2 1 3\nloops 0\n", manyLines(63) + "+ 1000 1000 1001 1002\nloops 64\n"},
		"label three times": {"+ 1 1 1 2\nloops 0\n", "+ 1 1 1 2\n+ 2 3 3 4\nloops 0\n", "+ 2 1 1 1\nloops 0\n", "+ 3 1 4 6\n+ 1 5 2 4\n+ 5 3 6 1\nloops 0\n", "+ 1 1 2 2\n- 4 3 3 2\nloops 0\n", "+ 1 1 2 2\n+ 1 3 3 4\nloops 0\n", "+ 1 1 2 2\n+ 3 1 4 4\nloops 0\n"},
		"label four times":  {"+ 1 1 1 1\nloops 0\n", "- 1 1 1 1\nloops 0\n", "+ 1 1 2 2\n+ 1 1 2 2\nloops 0\n", "+ 1 1 2 2\n- 2 1 1 2\nloops 0\n", manyLines(63) + "+ 1 1 2 2\nloops 0\n"},
		"twice outgoing":    {"+ 1 2 2 1\nloops 0\n", "- 1 1 2 2\nloops 0\n", "+ 1 3 3 2\n+ 4 1 2 4\nloops 0\n", "- 3 1 4 4\n+ 1 3 5 2\n- 5 2 6 6\nloops 0\n", "+ 1 3 3 2\nloops 0\n"},
		"twice incoming":    {"+ 1 2 3 1\nloops 0\n", "+ 1 2 3 4\n+ 1 2 3 4\nloops 0\n", "- 1 1 2 3\nloops 0\n", "+ 1 3 4 2\n+ 1 4 3 2\nloops 0\n"},
		"genus 1, too":      {"+ 1 2 1 2\n+ 3 4 4 3\nloops 0\n", "+ 3 4 4 3\n+ 1 2 1 2\nloops 0\n", "+ 1 2 1 2\n+ 1 2 1 2\nloops 0\n", "+ 1 2 1 2\n+ 3 3 4 5\nloops 0\n"},
	}
}

// notSpheres lists texts that are right but for the genus.
func notSpheres() []string {
	many := manyLines(api.MaxCrossings - 1)
	return []string{
		"+ 1 2 1 2\nloops 0\n", "- 1 2 1 2\nloops 64\n", "+ 9999 1 9999 1\nloops 0\n",
		// the visits O1 O2 U1 U2, and O1 O2 with U1 U2
		"+ 2 1 3 4\n+ 3 2 4 1\nloops 0\n", "+ 3 1 4 2\n+ 4 2 3 1\nloops 0\n",
		// beside a sphere, and twice
		"+ 1 1 2 2\n+ 3 4 3 4\nloops 0\n", "+ 3 4 3 4\n+ 1 1 2 2\nloops 0\n", "+ 1 2 1 2\n- 4 3 4 3\nloops 0\n",
		"+ 3 1 4 6\n+ 1 5 2 4\n+ 5 3 6 2\n- 8 7 8 7\nloops 2\n",
		many + "+ 5001 5002 5001 5002\nloops 64\n", "+ 5001 5002 5001 5002\n" + many + "loops 0\n",
	}
}

func TestParseErrors(t *testing.T) {
	check := func(what string, want api.Errno, texts ...string) {
		t.Helper()
		for _, s := range texts {
			if d, e := planar.Parse(s); e != want || !isZero(d) {
				t.Errorf("%s: %.100q yields %v, %d, not %d", what, s, d, e, want)
			}
			compareText(t, s)
		}
	}
	for what, texts := range notForms() {
		check(what, api.ErrForm, texts...)
	}
	check("too many", api.ErrFull, notFull()...)
	for what, texts := range notPaired() {
		check(what, api.ErrForm, texts...)
	}
	check("genus", api.ErrGenus, notSpheres()...)
}

func TestParseOfTextsThatAreTooLong(t *testing.T) {
	for _, s := range []string{
		strings.Repeat("x", api.MaxText+1), strings.Repeat("\n", api.MaxText+1), strings.Repeat(" ", 1<<20),
		"loops 0\n" + strings.Repeat("\n", api.MaxText-7), "+ 1 1 2 2\nloops 0" + strings.Repeat("0", api.MaxText),
		strings.Repeat("+ 1 2 1 2\n", api.MaxText/10+1), strings.Repeat("+ 1 1 2 2\n", api.MaxText/10+1) + "loops 0\n",
	} {
		if d, e := planar.Parse(s); e != api.ErrFull || !isZero(d) {
			t.Errorf("%d bytes, %.20q: %v, %d", len(s), s, d, e)
		}
	}
}

func TestParseOfTextsCutShort(t *testing.T) {
	for _, s := range drawings() {
		for i := range min(len(s.text), 200) {
			if d, e := planar.Parse(s.text[:i]); e != api.ErrForm || !isZero(d) {
				t.Errorf("%q: %v, %d", s.text[:i], d, e)
			}
			compareText(t, s.text[i:])
		}
	}
}

// Each byte of some texts is left out, replaced, and preceded by others.
func TestParseOfChangedTexts(t *testing.T) {
	const letters = "+-0123456789 \n\t\r*lops\x00\x80"
	met := map[api.Errno]int{}
	for _, name := range []string{"empty", "MaxLoops", "kink", "negative kink", "trefoil", "Hopf link", "unlinked clasp", "trefoil, kink, and loops"} {
		s := drawings()[name].text
		for i := range len(s) + 1 {
			before, behind := s[:i], s[min(i+1, len(s)):]
			met[compareText(t, before+behind)]++
			for _, letter := range []byte(letters) {
				met[compareText(t, before+string([]byte{letter})+behind)]++
				met[compareText(t, before+string([]byte{letter})+s[i:])]++
			}
		}
	}
	if keys := slices.Sorted(maps.Keys(met)); !slices.Equal(keys, []api.Errno{api.OK, api.ErrForm, api.ErrFull}) {
		t.Errorf("the results %v", met)
	}
}

// Two labels of some texts are exchanged.
func TestParseOfExchangedLabels(t *testing.T) {
	met := map[api.Errno]int{}
	for _, name := range []string{"kink", "negative kink", "left trefoil", "figure-eight knot", "unlinked clasp", "two trefoils that alternate"} {
		lines, last, _ := strings.Cut(drawings()[name].text, "loops")
		words := strings.Fields(lines)
		for i := range words {
			for k := range i {
				if i%5 == 0 || k%5 == 0 {
					continue
				}
				changed := slices.Clone(words)
				changed[i], changed[k] = words[k], words[i]
				text := ""
				for line := range slices.Chunk(changed, 5) {
					text += strings.Join(line, " ") + "\n"
				}
				met[compareText(t, text+"loops"+last)]++
			}
		}
	}
	if keys := slices.Sorted(maps.Keys(met)); !slices.Equal(keys, []api.Errno{api.OK, api.ErrForm, api.ErrGenus}) {
		t.Errorf("the results %v", met)
	}
}
