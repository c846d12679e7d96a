package gauss_test

import (
	"cmp"
	"slices"
	"testing"

	"unravel/api"
	"unravel/diagram"
	"unravel/gauss"
)

// everyCode visits all valid codes with n crossings and no loops, up to where
// their sequences begin and to their order: the successors of the 2n visits are
// one of their permutations.
func everyCode(n int, visit func(gauss.Code)) {
	next := make([]int, 2*n)
	for i := range next {
		next[i] = i
	}
	var permute func(int)
	permute = func(i int) {
		if i == len(next) {
			comps := cyclesOf(next)
			for bits := range 1 << n {
				c := gauss.Code{Comps: comps}
				for crossing := range n {
					c.Signs = append(c.Signs, 1-bits>>crossing&1*2)
				}
				visit(c)
			}
			return
		}
		for k := i; k < len(next); k++ {
			next[i], next[k] = next[k], next[i]
			permute(i + 1)
			next[i], next[k] = next[k], next[i]
		}
	}
	permute(0)
}

// cyclesOf makes sequences of a permutation: 2c is the visit over c, 2c + 1 that
// under it.
func cyclesOf(next []int) [][]gauss.Visit {
	var comps [][]gauss.Visit
	seen := make([]bool, len(next))
	for first := range next {
		var visits []gauss.Visit
		for i := first; !seen[i]; i = next[i] {
			seen[i] = true
			visits = append(visits, gauss.Visit{Crossing: i / 2, Over: i%2 == 0})
		}
		if len(visits) > 0 {
			comps = append(comps, visits)
		}
	}
	return comps
}

func TestAllSmallCodes(t *testing.T) {
	for n, want := range []int{1, 2, 24, 656} {
		drawable := 0
		texts := map[string]bool{}
		everyCode(n, func(c gauss.Code) {
			g, e := gauss.Genus(c)
			if !gauss.Valid(c) || e != api.OK || g != genusByCorners(c) {
				t.Fatalf("%v: the genus %d, %d", c, g, e)
			}
			checkText(t, c, texts)
			checkGenusKept(t, c, g)
			d, e := gauss.Diagram(c)
			if g != 0 {
				if e != api.ErrGenus || !diagram.Equal(d, api.Diagram{}) {
					t.Fatalf("%v: the diagram %v, %d", c, d, e)
				}
				return
			}
			drawable++
			if e != api.OK || !diagram.Valid(d) {
				t.Fatalf("%v: the diagram %v, %d", c, d, e)
			}
			checkDrawn(t, c, d)
			checkParity(t, c)
		})
		if drawable != want {
			t.Errorf("%d crossings: %d codes of genus 0, not %d", n, drawable, want)
		}
	}
}

func checkText(t *testing.T, c gauss.Code, texts map[string]bool) {
	t.Helper()
	s, e := gauss.Format(c)
	if e != api.OK || !isText(s) || texts[s] {
		t.Fatalf("%v: the text %q, %d", c, s, e)
	}
	texts[s] = true
	if back, e := gauss.Parse(s); e != api.OK || !equal(back, c) {
		t.Fatalf("%q: the code %v, %d", s, back, e)
	}
}

func checkGenusKept(t *testing.T, c gauss.Code, want int) {
	t.Helper()
	others := []gauss.Code{reversed(c)}
	for crossing := range c.Signs {
		others = append(others, switched(c, crossing))
	}
	for _, o := range others {
		if g, e := gauss.Genus(o); e != api.OK || g != want {
			t.Fatalf("%v: the genus %d, %d, but that of %v is %d", o, g, e, c, want)
		}
	}
}

func reversed(c gauss.Code) gauss.Code {
	r := clone(c)
	for _, comp := range r.Comps {
		slices.Reverse(comp)
	}
	return r
}

func switched(c gauss.Code, crossing int) gauss.Code {
	s := clone(c)
	s.Signs[crossing] = -s.Signs[crossing]
	for _, comp := range s.Comps {
		for i := range comp {
			if comp[i].Crossing == crossing {
				comp[i].Over = !comp[i].Over
			}
		}
	}
	return s
}

// checkDrawn reads the code from the diagram again, and compares it with the
// code up to the beginnings and the order of its sequences.
func checkDrawn(t *testing.T, c gauss.Code, d api.Diagram) {
	t.Helper()
	if d.Loops != c.Loops || !slices.Equal(d.Signs, c.Signs) {
		t.Fatalf("%v: the diagram %v", c, d)
	}
	of, e := gauss.Of(d)
	if want := inOrder(c); e != api.OK || !equal(of, want) {
		t.Fatalf("%v: the code %v, %d, not %v", d, of, e, want)
	}
	if back, e := gauss.Diagram(of); e != api.OK || !diagram.Equal(back, d) {
		t.Fatalf("%v: the diagram of its code is %v, %d", d, back, e)
	}
}

// inOrder lets each sequence begin with its least outgoing half-edge, and puts
// them in the order of these.
func inOrder(c gauss.Code) gauss.Code {
	out := func(v gauss.Visit) int {
		if !v.Over {
			return 4*v.Crossing + 2
		}
		return 4*v.Crossing + 2 - c.Signs[v.Crossing]
	}
	byOut := func(v, w gauss.Visit) int { return cmp.Compare(out(v), out(w)) }
	ordered := clone(c)
	for i, comp := range ordered.Comps {
		first := slices.Index(comp, slices.MinFunc(comp, byOut))
		ordered.Comps[i] = slices.Concat(comp[first:], comp[:first])
	}
	slices.SortFunc(ordered.Comps, func(a, b []gauss.Visit) int { return byOut(a[0], b[0]) })
	return ordered
}

// checkParity checks what closed curves on a sphere do: two of them meet an
// even number of times, and one of them leaves an even number of visits between
// the visits of a crossing.
func checkParity(t *testing.T, c gauss.Code) {
	t.Helper()
	comps := map[int][]int{}
	for i, comp := range c.Comps {
		for k, v := range comp {
			comps[v.Crossing] = append(comps[v.Crossing], i, k)
		}
	}
	common := map[[2]int]int{}
	for crossing, at := range comps {
		if at[0] != at[2] {
			common[[2]int{min(at[0], at[2]), max(at[0], at[2])}]++
		} else if len(c.Comps) == 1 && (at[3]-at[1])%2 == 0 {
			t.Fatalf("%v: an odd number of visits between those of %d", c, crossing)
		}
	}
	for pair, count := range common {
		if count%2 != 0 {
			t.Fatalf("%v: %d common crossings of %v", c, count, pair)
		}
	}
}

func TestConsequencesForSamples(t *testing.T) {
	for _, s := range drawings() {
		checkText(t, s.c, map[string]bool{})
		checkGenusKept(t, s.c, 0)
		checkDrawn(t, s.c, s.d)
		checkDrawn(t, inOrder(s.c), s.d)
		checkParity(t, s.c)
	}
	for _, g := range genera() {
		checkGenusKept(t, g.c, g.want)
	}
}
