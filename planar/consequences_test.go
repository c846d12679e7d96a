package planar_test

import (
	"bytes"
	"slices"
	"strconv"
	"strings"
	"testing"

	"unravel/api"
	"unravel/diagram"
	"unravel/gauss"
	"unravel/planar"
)

// everyPairing visits all ways to mate the outgoing with the incoming half-edges
// of n crossings, with all signs.
func everyPairing(n int, visit func(d api.Diagram)) {
	for bits := range 1 << n {
		d := api.Diagram{Mate: make([]int, 4*n)}
		for c := range n {
			d.Signs = append(d.Signs, 1-bits>>c&1*2)
		}
		var outgoing, incoming []int
		for h := range 4 * n {
			if goesOut(d.Signs, h) {
				outgoing = append(outgoing, h)
			} else {
				incoming = append(incoming, h)
			}
		}
		var pair func(i int)
		pair = func(i int) {
			if i == len(outgoing) {
				visit(d)
				return
			}
			for k := i; k < len(incoming); k++ {
				incoming[i], incoming[k] = incoming[k], incoming[i]
				d.Mate[outgoing[i]], d.Mate[incoming[i]] = incoming[i], outgoing[i]
				pair(i + 1)
				incoming[i], incoming[k] = incoming[k], incoming[i]
			}
		}
		pair(0)
	}
}

// labelled writes a planar code of mates, in which each edge has the label that
// is made from its outgoing half-edge.
func labelled(d api.Diagram, label func(out int) int) string {
	text := ""
	for h, mate := range d.Mate {
		if h%4 == 0 {
			text += map[int]string{1: "+", -1: "-"}[d.Signs[h/4]]
		}
		out := h
		if !goesOut(d.Signs, h) {
			out = mate
		}
		text += " " + strconv.Itoa(label(out))
		if h%4 == 3 {
			text += "\n"
		}
	}
	return text + "loops " + strconv.Itoa(d.Loops) + "\n"
}

// packed writes the binary form of mates.
func packed(d api.Diagram) []byte {
	n := len(d.Signs)
	b := []byte{byte(n), byte(d.Loops)}
	for first := 0; first < n; first += 8 {
		value := 0
		for c := min(first+8, n) - 1; c >= first; c-- {
			value = 2*value + (d.Signs[c]+1)/2
		}
		b = append(b, byte(value))
	}
	for h, mate := range d.Mate {
		if goesOut(d.Signs, h) {
			b = append(b, byte(mate))
		}
	}
	return b
}

// renamings lists ways to label edges by their outgoing half-edges.
func renamings() []func(int) int {
	return []func(int) int{
		func(out int) int { return out + 1 },
		func(out int) int { return 9999 - out },
		func(out int) int { return 1 + 39*out },
		func(out int) int { return 1 + (out*77+50)%256 },
		func(out int) int { return 9744 + (out ^ 0b10101010) },
	}
}

func TestAllSmallPairings(t *testing.T) {
	for n, want := range []int{1, 2, 24, 656} {
		drawable := 0
		everyPairing(n, func(d api.Diagram) {
			text, b := labelled(d, renamings()[1]), packed(d)
			e := compareText(t, text)
			if compareBytes(t, b) != e {
				t.Fatalf("%v: different errors of the forms", d)
			}
			if e == api.OK {
				drawable++
				checkForms(t, d)
				return
			}
			_, f := planar.Format(d)
			_, g := planar.Encode(d)
			if e != api.ErrGenus || diagram.Valid(d) || f != api.ErrArg || g != api.ErrArg {
				t.Fatalf("%v: the errors %d, %d, %d", d, e, f, g)
			}
		})
		if drawable != want {
			t.Errorf("%d crossings: %d diagrams, not %d", n, drawable, want)
		}
	}
}

// checkForms checks that each form of a diagram leads back to it, whatever the
// labels are.
func checkForms(t *testing.T, d api.Diagram) {
	t.Helper()
	text, e := planar.Format(d)
	if back, f := planar.Parse(text); e != api.OK || f != api.OK || !diagram.Equal(back, d) {
		t.Fatalf("%v: the text %q, %d of the diagram %v, %d", d, text, e, back, f)
	}
	for i, label := range renamings() {
		other := labelled(d, label)
		back, e := planar.Parse(other)
		if e != api.OK || !diagram.Equal(back, d) {
			t.Fatalf("%q: the diagram %v, %d, not %v", other, back, e, d)
		}
		if again, e := planar.Format(back); e != api.OK || again != text {
			t.Fatalf("%d: the text %q, %d, not %q", i, again, e, text)
		}
	}
	checkLabels(t, d, text)
	b, e := planar.Encode(d)
	if e != api.OK || !bytes.Equal(b, packed(d)) {
		t.Fatalf("%v: the bytes %v, %d", d, b, e)
	}
	if back, e := planar.Decode(b); e != api.OK || !diagram.Equal(back, d) {
		t.Fatalf("%v: the diagram %v, %d, not %v", b, back, e, d)
	}
	code, _ := gauss.Of(d)
	if back, e := gauss.Diagram(code); e != api.OK || !diagram.Equal(back, d) {
		t.Fatalf("%v: the diagram %v, %d by the Gauss code", d, back, e)
	}
}

// checkLabels looks for the labels of the strands: from 1 on, each strand going
// straight on through crossings, and beginning with the least outgoing
// half-edge without a label.
func checkLabels(t *testing.T, d api.Diagram, text string) {
	t.Helper()
	var labels []string
	for _, words := range crossing.FindAllStringSubmatch(text, -1) {
		labels = append(labels, words[2:]...)
	}
	label, met := 0, map[int]bool{}
	for first := range d.Mate {
		for h := first; goesOut(d.Signs, first) && !met[h]; h = d.Mate[h] ^ 2 {
			met[h] = true
			label++
			if want := strconv.Itoa(label); labels[h] != want || labels[d.Mate[h]] != want {
				t.Fatalf("%q: the labels %s and %s of the edge %d of %v", text, labels[h], labels[d.Mate[h]], label, d)
			}
		}
	}
	if 4*len(d.Signs) != len(labels) || strings.Count(text, "\n") != len(d.Signs)+1 {
		t.Fatalf("%q: the lines of %v", text, d)
	}
}

func TestConsequencesForSamples(t *testing.T) {
	for _, s := range drawings() {
		checkForms(t, s.d)
		n := len(s.d.Signs)
		order := make([]int, n)
		for i := range order {
			order[i] = (5*i + 3) % max(n, 1)
		}
		if r, e := diagram.Renumber(s.d, order); e == api.OK {
			checkForms(t, r)
		}
	}
}

func TestDifferentDiagramsHaveDifferentForms(t *testing.T) {
	texts, forms := map[string]bool{}, map[string]bool{}
	count := 0
	for n := range 4 {
		everyPairing(n, func(d api.Diagram) {
			for d.Loops = range 3 {
				text, e := planar.Format(d)
				b, _ := planar.Encode(d)
				if e == api.OK {
					texts[text], forms[string(b)] = true, true
					count++
				}
			}
		})
	}
	if len(texts) != count || len(forms) != count || count != 3*(1+2+24+656) {
		t.Errorf("%d texts and %d binary forms of %d diagrams", len(texts), len(forms), count)
	}
}

func TestNothingSharesMemory(t *testing.T) {
	s := drawings()["trefoil, kink, and loops"]
	b, _ := planar.Encode(s.d)
	overwrite(b)
	d, _ := planar.Decode(s.bytes)
	overwrite(d.Signs)
	overwrite(d.Mate)
	d, _ = planar.Parse(s.text)
	overwrite(d.Signs)
	if !slices.Equal(d.Mate, s.d.Mate) {
		t.Error("the signs share memory with the mates")
	}
	want := drawings()["trefoil, kink, and loops"]
	if !diagram.Equal(s.d, want.d) || !bytes.Equal(s.bytes, want.bytes) {
		t.Error("a result shares memory with an argument")
	}
}

// overwrite changes all the memory that can be reached through a slice.
func overwrite[T int | byte](list []T) {
	list = list[:cap(list)]
	for i := range list {
		list[i] = 77
	}
}
